/- Joined: Cell8 Cell8b. -/
import Derived.Test.YtielfekkonflfaaJMTellFits6
import Derived.Test.YtielfekkonflfaaJTellBack11
namespace Go.Proofs.Ytielfekkonflfaa
open Go.ChangeShapes Go.WideShapes Go.ChangeAt Go.RowKit
set_option linter.unusedVariables false
set_option linter.unusedSimpArgs false

set_option maxRecDepth 100000 in
set_option maxHeartbeats 4000000 in
theorem fdo_5 (g N : Nat) (at_ n v an orr : Int) (bl wl : Nat) (ra rn co ob : Int) (BA WA : Option Addr) (bc wc : Nat) (bs : List Bool) (ws : List Int) (w : World) (hF : FileAt w g N) (hN : N ≤ 800000) (hrt : rightP 5 at_ n v an orr bl wl ra rn co ob) (hwd : Wide at_ n v an orr ra rn co ob) (hbr : BRow w w.heap.size BA bl bs) (hwr : Row .u16 w w.heap.size WA wl ws) (hws : Words ws) :
    Calls Try.prog 16 #[.pointer (some ⟨g, 0, none⟩), .agg #[.int .i64 5, .int .i64 at_, .int .i64 n, .int .u16 v, .int .u16 an, .int .u16 orr, .slice BA bl bc, .slice WA wl wc, .int .i64 ra, .int .i64 rn, .int .i64 co, .int .i64 ob]] w (DoE g 5 at_ 0 v 0 0 w) := by
  obtain ⟨hkw, hR, hA⟩ := box2t w 48 28 [.int .i64 5, .int .i64 at_, .int .i64 n, .int .u16 v, .int .u16 an, .int .u16 orr, .slice BA bl bc, .slice WA wl wc, .int .i64 ra, .int .i64 rn, .int .i64 co, .int .i64 ob] [.int .i64 0, .int .i64 0, .slice none 0 0, .slice none 0 0, .int .i64 0, .int .i64 0, .int .u16 0, .int .u16 0, .int .u16 0, .int .i64 0, .int .i64 0, .bool false, .int .i64 0, .slice none 0 0]
  obtain ⟨W, hW⟩ : ∃ W, (w.alloc (.cells #[.int .i64 5, .int .i64 at_, .int .i64 n, .int .u16 v, .int .u16 an, .int .u16 orr, .slice BA bl bc, .slice WA wl wc, .int .i64 ra, .int .i64 rn, .int .i64 co, .int .i64 ob] 48)).alloc (.cells #[.int .i64 0, .int .i64 0, .slice none 0 0, .slice none 0 0, .int .i64 0, .int .i64 0, .int .u16 0, .int .u16 0, .int .u16 0, .int .i64 0, .int .i64 0, .bool false, .int .i64 0, .slice none 0 0] 28) = W := ⟨_, rfl⟩
  rw [show (w.alloc (.cells (List.toArray [.int .i64 5, .int .i64 at_, .int .i64 n, .int .u16 v, .int .u16 an, .int .u16 orr, .slice BA bl bc, .slice WA wl wc, .int .i64 ra, .int .i64 rn, .int .i64 co, .int .i64 ob]) 48)).alloc (.cells (List.toArray [.int .i64 0, .int .i64 0, .slice none 0 0, .slice none 0 0, .int .i64 0, .int .i64 0, .int .u16 0, .int .u16 0, .int .u16 0, .int .i64 0, .int .i64 0, .bool false, .int .i64 0, .slice none 0 0]) 28) = W from hW] at hkw hA hR
  have hgw : g < w.heap.size := hF.lt
  have hsW : w.heap.size + 1 < W.heap.size := hR.lt
  obtain ⟨aa0, aa1, aa2, aa3, aa4, aa5, aa6, aa7, aa8, aa9, aa10, aa11⟩ := cells12 hA
  have HRt := Lib.hid hrt
  have HT1 : Hid (kTab 5 = 0) := rfl
  have HT2 : Hid (kHas 5 = true) := rfl
  go_enter Try.func16, Try.ntmps16
  go_wp2_with fail
  refine (rspans_5 at_ n v an orr bl wl ra rn co ob BA WA bc wc W HRt.out).mono ?_
  rintro e w1 ⟨R, nr, rc, S, ns, sc, rfl, hRr, hSr, hb1⟩
  have hk1 := hkw.trans (hb1.mono hkw.size)
  have hA1 := hA.below hb1 hA.lt
  have hR1 := hR.below hb1 hR.lt
  have hF1 := hF.below hk1
  obtain ⟨L, fn_, fc, hFw, hFl, hFn⟩ := hF1
  have hnr : nr = 0 := by simpa [spR, OneRow] using hRr
  subst hnr
  have hS2 : OneRow w1 S ns (some (0, at_, at_ + 1)) := by simpa [spW, kTab] using hSr
  obtain ⟨hns, sB, rfl, hsg, hsl, s0, s1, s2⟩ := row_ne hFw hS2
  subst hns
  clear hRr hSr hS2 aa0 aa1 aa2 aa3 aa4 aa5 aa6 aa7 aa8 aa9 aa10 aa11
  obtain ⟨aa0, aa1, aa2, aa3, aa4, aa5, aa6, aa7, aa8, aa9, aa10, aa11⟩ := cells12 hA1
  go_wp2_with fail
  refine (right_yes 5 at_ n v an orr bl wl ra rn co ob BA WA bc wc w1 HRt.out).mono ?_
  rintro e w2 ⟨rfl, hb2⟩
  have hk2 := hk1.trans (hb2.mono hk1.size)
  have hA2 := hA1.below hb2 hA1.lt
  have hR2 := hR1.below hb2 hR1.lt
  have y0 := (hb2.cell (p := ⟨sB, 0, none⟩) hsl).trans s0
  have y1 := (hb2.cell (p := ⟨sB, 1, none⟩) hsl).trans s1
  have y2 := (hb2.cell (p := ⟨sB, 2, none⟩) hsl).trans s2
  clear aa0 aa1 aa2 aa3 aa4 aa5 aa6 aa7 aa8 aa9 aa10 aa11 s0 s1 s2
  obtain ⟨aa0, aa1, aa2, aa3, aa4, aa5, aa6, aa7, aa8, aa9, aa10, aa11⟩ := cells12 hA2
  go_wp2_with fail
  refine (span12_any 0 at_ (at_ + 1) w2).mono ?_
  rintro e w3 ⟨bb, rfl, hb3⟩
  have hk3 := hk2.trans (hb3.mono hk2.size)
  have hA3 := hA2.below hb3 hA2.lt
  have hR3 := hR2.below hb3 hR2.lt
  have hF3 := hF.below hk3
  clear aa0 aa1 aa2 aa3 aa4 aa5 aa6 aa7 aa8 aa9 aa10 aa11
  obtain ⟨aa0, aa1, aa2, aa3, aa4, aa5, aa6, aa7, aa8, aa9, aa10, aa11⟩ := cells12 hA3
  obtain ⟨rr0, rr1, rr2, rr3, rr4, rr5, rr6, rr7, rr8, rr9, rr10, rr11, rr12, rr13⟩ := cells14 hR3
  obtain ⟨ff0, ff1, ff2, ff3, ff4, ff5, ff6, ff7, ff8, ff9, ff10, ff11, ff12, ff13⟩ := frozen14 hR3
  have hy3 : w.heap.size + 1 < w3.heap.size := hR3.lt
  cases bb
  · have HR3 := Lib.hid hR3
    have HK3 := Lib.hid hk3
    clear hA hR hA1 hR1 hA2 hR2 hA3 hR3 hF hFw hFl hFn hF3 hb1 hb2 hb3 hk1 hk2 hk3 hkw hbr hwr hws hwd hrt
    go_wp2_with fail
    exact end14 Try.results16 HR3.out rfl HK3.out (Nat.le_succ _) rfl rfl fun w9 hbb hk => .inl ⟨rfl, Off.of_below hbb⟩
  · have HF3 : Hid (FileAt w3.drew g N) := hF.below hk3.drew
    have HA3 := Lib.hid hA3
    have HR3 := Lib.hid hR3
    have HK3 := Lib.hid hk3
    have HBR := Lib.hid hbr
    have HWR := Lib.hid hwr
    have HWS := Lib.hid hws
    have HWD := Lib.hid hwd
    have HF := Lib.hid hF
    clear hA hR hA1 hR1 hA2 hR2 hA3 hR3 hF hFw hFl hFn hF3 hb1 hb2 hb3 hk1 hk2 hk3 hkw hbr hwr hws hwd hrt rr0 rr1 rr2 rr3 rr4 rr5 rr6 rr7 rr8 rr9 rr10 rr11 rr12 rr13 ff0 ff1 ff2 ff3 ff4 ff5 ff6 ff7 ff8 ff9 ff10 ff11 ff12 ff13
    go_upto_region 5 with (go_at_call 44; (with_reducible refine (table_lit 5 _ _ _ HT1.out HT2.out).mono ?_); rintro e w' ⟨rfl, rfl⟩)
    go_region_with (first
      | (go_at_call 46
         (with_reducible refine (fget_any g N 0 at_ w3.drew HF3.out (by omega)).mono ?_)
         rintro e w4 ⟨was, rfl, was0, was1, hb4⟩
         have hb4' : Below w3.heap.size w3 w4 := below_from (d := 1) hb4
         have HK4 := Lib.hid (HK3.out.trans (hb4'.mono HK3.out.size))
         have hA4 := HA3.out.below hb4' HA3.out.lt
         obtain ⟨ab0, ab1, ab2, ab3, ab4, ab5, ab6, ab7, ab8, ab9, ab10, ab11⟩ := cells12 hA4
         have HA4 := Lib.hid hA4
         have HR4 := Lib.hid (HR3.out.below hb4' HR3.out.lt)
         clear hb4 hb4' hA4)
      | (go_at_call 45
         (with_reducible refine (rcells_5 at_ n v an orr bl wl ra rn co ob BA WA bc wc bs ws was w4 HRt.out HWD.out ((HBR.out.below HK4.out).more HK4.out.size) ((HWR.out.below HK4.out).more HK4.out.size) HWS.out was0 was1).mono ?_)
         rintro e w5 ⟨A5, m5, c5, rfl, hm5, ho5, hb5⟩
         have HK5 := Lib.hid (HK4.out.trans (hb5.mono HK4.out.size))
         have HF5 := Lib.hid (HF.out.below HK5.out)
         have HL5 : Hid (CL w5 g A5 m5) := ho5.cl (Nat.lt_of_lt_of_le hgw HK4.out.size)
         have HA5 := Lib.hid (HA4.out.below hb5 HA4.out.lt)
         have HR5 := Lib.hid (HR4.out.below hb5 HR4.out.lt)
         clear hb5 ho5)
      | (go_at_call 13
         (with_reducible refine (fset_any g N A5 m5 c5 w5 HF5.out HL5.out (by omega)).mono ?_)
         rintro e w6 ⟨rfl, hF6, hO6⟩
         have hA6 := hO6.whole HA5.out (by omega)
         have HA6 := Lib.hid hA6
         have HR6 := Lib.hid (hO6.whole HR5.out (by omega))
         obtain ⟨ac0, ac1, ac2, ac3, ac4, ac5, ac6, ac7, ac8, ac9, ac10, ac11⟩ := cells12 hA6
         have HO6 : Hid (Off (fun k => k = g) w w6) := (Off.of_below HK5.out).trans hO6 (fun i hi => .inl hi)
         have HF6 := Lib.hid hF6
         have hz6 : w.heap.size + 1 < w6.heap.size := HR6.out.lt
         clear hA6 hF6 hO6))
    all_goals
      go_wp2_with fail
      refine (recho_5 at_ n v an orr bl wl ra rn co ob BA WA bc wc w6 HRt.out).mono ?_
      rintro e w7 ⟨rfl, hb7⟩
      have hR7 := HR6.out.below hb7 HR6.out.lt
      obtain ⟨rr0, rr1, rr2, rr3, rr4, rr5, rr6, rr7, rr8, rr9, rr10, rr11, rr12, rr13⟩ := cells14 hR7
      obtain ⟨ff0, ff1, ff2, ff3, ff4, ff5, ff6, ff7, ff8, ff9, ff10, ff11, ff12, ff13⟩ := frozen14 hR7
      have HR7 := Lib.hid hR7
      have HO7 := Lib.hid (HO6.out.then hb7)
      have hz7 : w.heap.size + 1 < w7.heap.size := hR7.lt
      clear hR7 hb7
      go_wp2_with fail
      exact end14 Try.results16 HR7.out rfl (Below.refl (w.heap.size) w7) (Nat.le_succ _) rfl rfl fun w9 hbb hk => .inr ⟨rfl, HO7.out.thenB hbb (Nat.le_refl _)⟩

set_option maxRecDepth 100000 in
set_option maxHeartbeats 4000000 in
theorem fdo_6 (g N : Nat) (at_ n v an orr : Int) (bl wl : Nat) (ra rn co ob : Int) (BA WA : Option Addr) (bc wc : Nat) (bs : List Bool) (ws : List Int) (w : World) (hF : FileAt w g N) (hN : N ≤ 800000) (hrt : rightP 6 at_ n v an orr bl wl ra rn co ob) (hwd : Wide at_ n v an orr ra rn co ob) (hbr : BRow w w.heap.size BA bl bs) (hwr : Row .u16 w w.heap.size WA wl ws) (hws : Words ws) :
    Calls Try.prog 16 #[.pointer (some ⟨g, 0, none⟩), .agg #[.int .i64 6, .int .i64 at_, .int .i64 n, .int .u16 v, .int .u16 an, .int .u16 orr, .slice BA bl bc, .slice WA wl wc, .int .i64 ra, .int .i64 rn, .int .i64 co, .int .i64 ob]] w (DoE g 6 at_ 0 v 0 0 w) := by
  obtain ⟨hkw, hR, hA⟩ := box2t w 48 28 [.int .i64 6, .int .i64 at_, .int .i64 n, .int .u16 v, .int .u16 an, .int .u16 orr, .slice BA bl bc, .slice WA wl wc, .int .i64 ra, .int .i64 rn, .int .i64 co, .int .i64 ob] [.int .i64 0, .int .i64 0, .slice none 0 0, .slice none 0 0, .int .i64 0, .int .i64 0, .int .u16 0, .int .u16 0, .int .u16 0, .int .i64 0, .int .i64 0, .bool false, .int .i64 0, .slice none 0 0]
  obtain ⟨W, hW⟩ : ∃ W, (w.alloc (.cells #[.int .i64 6, .int .i64 at_, .int .i64 n, .int .u16 v, .int .u16 an, .int .u16 orr, .slice BA bl bc, .slice WA wl wc, .int .i64 ra, .int .i64 rn, .int .i64 co, .int .i64 ob] 48)).alloc (.cells #[.int .i64 0, .int .i64 0, .slice none 0 0, .slice none 0 0, .int .i64 0, .int .i64 0, .int .u16 0, .int .u16 0, .int .u16 0, .int .i64 0, .int .i64 0, .bool false, .int .i64 0, .slice none 0 0] 28) = W := ⟨_, rfl⟩
  rw [show (w.alloc (.cells (List.toArray [.int .i64 6, .int .i64 at_, .int .i64 n, .int .u16 v, .int .u16 an, .int .u16 orr, .slice BA bl bc, .slice WA wl wc, .int .i64 ra, .int .i64 rn, .int .i64 co, .int .i64 ob]) 48)).alloc (.cells (List.toArray [.int .i64 0, .int .i64 0, .slice none 0 0, .slice none 0 0, .int .i64 0, .int .i64 0, .int .u16 0, .int .u16 0, .int .u16 0, .int .i64 0, .int .i64 0, .bool false, .int .i64 0, .slice none 0 0]) 28) = W from hW] at hkw hA hR
  have hgw : g < w.heap.size := hF.lt
  have hsW : w.heap.size + 1 < W.heap.size := hR.lt
  obtain ⟨aa0, aa1, aa2, aa3, aa4, aa5, aa6, aa7, aa8, aa9, aa10, aa11⟩ := cells12 hA
  have HRt := Lib.hid hrt
  have HT1 : Hid (kTab 6 = 2) := rfl
  have HT2 : Hid (kHas 6 = true) := rfl
  go_enter Try.func16, Try.ntmps16
  go_wp2_with fail
  refine (rspans_6 at_ n v an orr bl wl ra rn co ob BA WA bc wc W HRt.out).mono ?_
  rintro e w1 ⟨R, nr, rc, S, ns, sc, rfl, hRr, hSr, hb1⟩
  have hk1 := hkw.trans (hb1.mono hkw.size)
  have hA1 := hA.below hb1 hA.lt
  have hR1 := hR.below hb1 hR.lt
  have hF1 := hF.below hk1
  obtain ⟨L, fn_, fc, hFw, hFl, hFn⟩ := hF1
  have hnr : nr = 0 := by simpa [spR, OneRow] using hRr
  subst hnr
  have hS2 : OneRow w1 S ns (some (2, at_, at_ + 1)) := by simpa [spW, kTab] using hSr
  obtain ⟨hns, sB, rfl, hsg, hsl, s0, s1, s2⟩ := row_ne hFw hS2
  subst hns
  clear hRr hSr hS2 aa0 aa1 aa2 aa3 aa4 aa5 aa6 aa7 aa8 aa9 aa10 aa11
  obtain ⟨aa0, aa1, aa2, aa3, aa4, aa5, aa6, aa7, aa8, aa9, aa10, aa11⟩ := cells12 hA1
  go_wp2_with fail
  refine (right_yes 6 at_ n v an orr bl wl ra rn co ob BA WA bc wc w1 HRt.out).mono ?_
  rintro e w2 ⟨rfl, hb2⟩
  have hk2 := hk1.trans (hb2.mono hk1.size)
  have hA2 := hA1.below hb2 hA1.lt
  have hR2 := hR1.below hb2 hR1.lt
  have y0 := (hb2.cell (p := ⟨sB, 0, none⟩) hsl).trans s0
  have y1 := (hb2.cell (p := ⟨sB, 1, none⟩) hsl).trans s1
  have y2 := (hb2.cell (p := ⟨sB, 2, none⟩) hsl).trans s2
  clear aa0 aa1 aa2 aa3 aa4 aa5 aa6 aa7 aa8 aa9 aa10 aa11 s0 s1 s2
  obtain ⟨aa0, aa1, aa2, aa3, aa4, aa5, aa6, aa7, aa8, aa9, aa10, aa11⟩ := cells12 hA2
  go_wp2_with fail
  refine (span12_any 2 at_ (at_ + 1) w2).mono ?_
  rintro e w3 ⟨bb, rfl, hb3⟩
  have hk3 := hk2.trans (hb3.mono hk2.size)
  have hA3 := hA2.below hb3 hA2.lt
  have hR3 := hR2.below hb3 hR2.lt
  have hF3 := hF.below hk3
  clear aa0 aa1 aa2 aa3 aa4 aa5 aa6 aa7 aa8 aa9 aa10 aa11
  obtain ⟨aa0, aa1, aa2, aa3, aa4, aa5, aa6, aa7, aa8, aa9, aa10, aa11⟩ := cells12 hA3
  obtain ⟨rr0, rr1, rr2, rr3, rr4, rr5, rr6, rr7, rr8, rr9, rr10, rr11, rr12, rr13⟩ := cells14 hR3
  obtain ⟨ff0, ff1, ff2, ff3, ff4, ff5, ff6, ff7, ff8, ff9, ff10, ff11, ff12, ff13⟩ := frozen14 hR3
  have hy3 : w.heap.size + 1 < w3.heap.size := hR3.lt
  cases bb
  · have HR3 := Lib.hid hR3
    have HK3 := Lib.hid hk3
    clear hA hR hA1 hR1 hA2 hR2 hA3 hR3 hF hFw hFl hFn hF3 hb1 hb2 hb3 hk1 hk2 hk3 hkw hbr hwr hws hwd hrt
    go_wp2_with fail
    exact end14 Try.results16 HR3.out rfl HK3.out (Nat.le_succ _) rfl rfl fun w9 hbb hk => .inl ⟨rfl, Off.of_below hbb⟩
  · have HF3 : Hid (FileAt w3.drew g N) := hF.below hk3.drew
    have HA3 := Lib.hid hA3
    have HR3 := Lib.hid hR3
    have HK3 := Lib.hid hk3
    have HBR := Lib.hid hbr
    have HWR := Lib.hid hwr
    have HWS := Lib.hid hws
    have HWD := Lib.hid hwd
    have HF := Lib.hid hF
    clear hA hR hA1 hR1 hA2 hR2 hA3 hR3 hF hFw hFl hFn hF3 hb1 hb2 hb3 hk1 hk2 hk3 hkw hbr hwr hws hwd hrt rr0 rr1 rr2 rr3 rr4 rr5 rr6 rr7 rr8 rr9 rr10 rr11 rr12 rr13 ff0 ff1 ff2 ff3 ff4 ff5 ff6 ff7 ff8 ff9 ff10 ff11 ff12 ff13
    go_upto_region 5 with (go_at_call 44; (with_reducible refine (table_lit 6 _ _ _ HT1.out HT2.out).mono ?_); rintro e w' ⟨rfl, rfl⟩)
    go_region_with (first
      | (go_at_call 46
         (with_reducible refine (fget_any g N 2 at_ w3.drew HF3.out (by omega)).mono ?_)
         rintro e w4 ⟨was, rfl, was0, was1, hb4⟩
         have hb4' : Below w3.heap.size w3 w4 := below_from (d := 1) hb4
         have HK4 := Lib.hid (HK3.out.trans (hb4'.mono HK3.out.size))
         have hA4 := HA3.out.below hb4' HA3.out.lt
         obtain ⟨ab0, ab1, ab2, ab3, ab4, ab5, ab6, ab7, ab8, ab9, ab10, ab11⟩ := cells12 hA4
         have HA4 := Lib.hid hA4
         have HR4 := Lib.hid (HR3.out.below hb4' HR3.out.lt)
         clear hb4 hb4' hA4)
      | (go_at_call 45
         (with_reducible refine (rcells_6 at_ n v an orr bl wl ra rn co ob BA WA bc wc bs ws was w4 HRt.out HWD.out ((HBR.out.below HK4.out).more HK4.out.size) ((HWR.out.below HK4.out).more HK4.out.size) HWS.out was0 was1).mono ?_)
         rintro e w5 ⟨A5, m5, c5, rfl, hm5, ho5, hb5⟩
         have HK5 := Lib.hid (HK4.out.trans (hb5.mono HK4.out.size))
         have HF5 := Lib.hid (HF.out.below HK5.out)
         have HL5 : Hid (CL w5 g A5 m5) := ho5.cl (Nat.lt_of_lt_of_le hgw HK4.out.size)
         have HA5 := Lib.hid (HA4.out.below hb5 HA4.out.lt)
         have HR5 := Lib.hid (HR4.out.below hb5 HR4.out.lt)
         clear hb5 ho5)
      | (go_at_call 13
         (with_reducible refine (fset_any g N A5 m5 c5 w5 HF5.out HL5.out (by omega)).mono ?_)
         rintro e w6 ⟨rfl, hF6, hO6⟩
         have hA6 := hO6.whole HA5.out (by omega)
         have HA6 := Lib.hid hA6
         have HR6 := Lib.hid (hO6.whole HR5.out (by omega))
         obtain ⟨ac0, ac1, ac2, ac3, ac4, ac5, ac6, ac7, ac8, ac9, ac10, ac11⟩ := cells12 hA6
         have HO6 : Hid (Off (fun k => k = g) w w6) := (Off.of_below HK5.out).trans hO6 (fun i hi => .inl hi)
         have HF6 := Lib.hid hF6
         have hz6 : w.heap.size + 1 < w6.heap.size := HR6.out.lt
         clear hA6 hF6 hO6))
    all_goals
      go_wp2_with fail
      refine (recho_6 at_ n v an orr bl wl ra rn co ob BA WA bc wc w6 HRt.out).mono ?_
      rintro e w7 ⟨rfl, hb7⟩
      have hR7 := HR6.out.below hb7 HR6.out.lt
      obtain ⟨rr0, rr1, rr2, rr3, rr4, rr5, rr6, rr7, rr8, rr9, rr10, rr11, rr12, rr13⟩ := cells14 hR7
      obtain ⟨ff0, ff1, ff2, ff3, ff4, ff5, ff6, ff7, ff8, ff9, ff10, ff11, ff12, ff13⟩ := frozen14 hR7
      have HR7 := Lib.hid hR7
      have HO7 := Lib.hid (HO6.out.then hb7)
      have hz7 : w.heap.size + 1 < w7.heap.size := hR7.lt
      clear hR7 hb7
      go_wp2_with fail
      exact end14 Try.results16 HR7.out rfl (Below.refl (w.heap.size) w7) (Nat.le_succ _) rfl rfl fun w9 hbb hk => .inr ⟨rfl, HO7.out.thenB hbb (Nat.le_refl _)⟩

set_option maxRecDepth 100000 in
set_option maxHeartbeats 4000000 in
theorem fdo_15 (g N : Nat) (at_ n v an orr : Int) (bl wl : Nat) (ra rn co ob : Int) (BA WA : Option Addr) (bc wc : Nat) (bs : List Bool) (ws : List Int) (w : World) (hF : FileAt w g N) (hN : N ≤ 800000) (hrt : rightP 15 at_ n v an orr bl wl ra rn co ob) (hwd : Wide at_ n v an orr ra rn co ob) (hbr : BRow w w.heap.size BA bl bs) (hwr : Row .u16 w w.heap.size WA wl ws) (hws : Words ws) :
    Calls Try.prog 16 #[.pointer (some ⟨g, 0, none⟩), .agg #[.int .i64 15, .int .i64 at_, .int .i64 n, .int .u16 v, .int .u16 an, .int .u16 orr, .slice BA bl bc, .slice WA wl wc, .int .i64 ra, .int .i64 rn, .int .i64 co, .int .i64 ob]] w (DoE g 15 at_ n 0 0 0 w) := by
  obtain ⟨hkw, hR, hA⟩ := box2t w 48 28 [.int .i64 15, .int .i64 at_, .int .i64 n, .int .u16 v, .int .u16 an, .int .u16 orr, .slice BA bl bc, .slice WA wl wc, .int .i64 ra, .int .i64 rn, .int .i64 co, .int .i64 ob] [.int .i64 0, .int .i64 0, .slice none 0 0, .slice none 0 0, .int .i64 0, .int .i64 0, .int .u16 0, .int .u16 0, .int .u16 0, .int .i64 0, .int .i64 0, .bool false, .int .i64 0, .slice none 0 0]
  obtain ⟨W, hW⟩ : ∃ W, (w.alloc (.cells #[.int .i64 15, .int .i64 at_, .int .i64 n, .int .u16 v, .int .u16 an, .int .u16 orr, .slice BA bl bc, .slice WA wl wc, .int .i64 ra, .int .i64 rn, .int .i64 co, .int .i64 ob] 48)).alloc (.cells #[.int .i64 0, .int .i64 0, .slice none 0 0, .slice none 0 0, .int .i64 0, .int .i64 0, .int .u16 0, .int .u16 0, .int .u16 0, .int .i64 0, .int .i64 0, .bool false, .int .i64 0, .slice none 0 0] 28) = W := ⟨_, rfl⟩
  rw [show (w.alloc (.cells (List.toArray [.int .i64 15, .int .i64 at_, .int .i64 n, .int .u16 v, .int .u16 an, .int .u16 orr, .slice BA bl bc, .slice WA wl wc, .int .i64 ra, .int .i64 rn, .int .i64 co, .int .i64 ob]) 48)).alloc (.cells (List.toArray [.int .i64 0, .int .i64 0, .slice none 0 0, .slice none 0 0, .int .i64 0, .int .i64 0, .int .u16 0, .int .u16 0, .int .u16 0, .int .i64 0, .int .i64 0, .bool false, .int .i64 0, .slice none 0 0]) 28) = W from hW] at hkw hA hR
  have hgw : g < w.heap.size := hF.lt
  have hsW : w.heap.size + 1 < W.heap.size := hR.lt
  obtain ⟨aa0, aa1, aa2, aa3, aa4, aa5, aa6, aa7, aa8, aa9, aa10, aa11⟩ := cells12 hA
  have HRt := Lib.hid hrt
  have HT1 : Hid (kTab 15 = 0) := rfl
  have HT2 : Hid (kHas 15 = true) := rfl
  go_enter Try.func16, Try.ntmps16
  go_wp2_with fail
  refine (rspans_15 at_ n v an orr bl wl ra rn co ob BA WA bc wc W HRt.out).mono ?_
  rintro e w1 ⟨R, nr, rc, S, ns, sc, rfl, hRr, hSr, hb1⟩
  have hk1 := hkw.trans (hb1.mono hkw.size)
  have hA1 := hA.below hb1 hA.lt
  have hR1 := hR.below hb1 hR.lt
  have hF1 := hF.below hk1
  obtain ⟨L, fn_, fc, hFw, hFl, hFn⟩ := hF1
  have hnr : nr = 0 := by simpa [spR, OneRow] using hRr
  subst hnr
  have hS2 : OneRow w1 S ns (some (0, at_, at_ + n)) := by simpa [spW, kTab] using hSr
  obtain ⟨hns, sB, rfl, hsg, hsl, s0, s1, s2⟩ := row_ne hFw hS2
  subst hns
  clear hRr hSr hS2 aa0 aa1 aa2 aa3 aa4 aa5 aa6 aa7 aa8 aa9 aa10 aa11
  obtain ⟨aa0, aa1, aa2, aa3, aa4, aa5, aa6, aa7, aa8, aa9, aa10, aa11⟩ := cells12 hA1
  go_wp2_with fail
  refine (right_yes 15 at_ n v an orr bl wl ra rn co ob BA WA bc wc w1 HRt.out).mono ?_
  rintro e w2 ⟨rfl, hb2⟩
  have hk2 := hk1.trans (hb2.mono hk1.size)
  have hA2 := hA1.below hb2 hA1.lt
  have hR2 := hR1.below hb2 hR1.lt
  have y0 := (hb2.cell (p := ⟨sB, 0, none⟩) hsl).trans s0
  have y1 := (hb2.cell (p := ⟨sB, 1, none⟩) hsl).trans s1
  have y2 := (hb2.cell (p := ⟨sB, 2, none⟩) hsl).trans s2
  clear aa0 aa1 aa2 aa3 aa4 aa5 aa6 aa7 aa8 aa9 aa10 aa11 s0 s1 s2
  obtain ⟨aa0, aa1, aa2, aa3, aa4, aa5, aa6, aa7, aa8, aa9, aa10, aa11⟩ := cells12 hA2
  go_wp2_with fail
  refine (span12_any 0 at_ (at_ + n) w2).mono ?_
  rintro e w3 ⟨bb, rfl, hb3⟩
  have hk3 := hk2.trans (hb3.mono hk2.size)
  have hA3 := hA2.below hb3 hA2.lt
  have hR3 := hR2.below hb3 hR2.lt
  have hF3 := hF.below hk3
  clear aa0 aa1 aa2 aa3 aa4 aa5 aa6 aa7 aa8 aa9 aa10 aa11
  obtain ⟨aa0, aa1, aa2, aa3, aa4, aa5, aa6, aa7, aa8, aa9, aa10, aa11⟩ := cells12 hA3
  obtain ⟨rr0, rr1, rr2, rr3, rr4, rr5, rr6, rr7, rr8, rr9, rr10, rr11, rr12, rr13⟩ := cells14 hR3
  obtain ⟨ff0, ff1, ff2, ff3, ff4, ff5, ff6, ff7, ff8, ff9, ff10, ff11, ff12, ff13⟩ := frozen14 hR3
  have hy3 : w.heap.size + 1 < w3.heap.size := hR3.lt
  cases bb
  · have HR3 := Lib.hid hR3
    have HK3 := Lib.hid hk3
    clear hA hR hA1 hR1 hA2 hR2 hA3 hR3 hF hFw hFl hFn hF3 hb1 hb2 hb3 hk1 hk2 hk3 hkw hbr hwr hws hwd hrt
    go_wp2_with fail
    exact end14 Try.results16 HR3.out rfl HK3.out (Nat.le_succ _) rfl rfl fun w9 hbb hk => .inl ⟨rfl, Off.of_below hbb⟩
  · have HF3 : Hid (FileAt w3.drew g N) := hF.below hk3.drew
    have HA3 := Lib.hid hA3
    have HR3 := Lib.hid hR3
    have HK3 := Lib.hid hk3
    have HBR := Lib.hid hbr
    have HWR := Lib.hid hwr
    have HWS := Lib.hid hws
    have HWD := Lib.hid hwd
    have HF := Lib.hid hF
    clear hA hR hA1 hR1 hA2 hR2 hA3 hR3 hF hFw hFl hFn hF3 hb1 hb2 hb3 hk1 hk2 hk3 hkw hbr hwr hws hwd hrt rr0 rr1 rr2 rr3 rr4 rr5 rr6 rr7 rr8 rr9 rr10 rr11 rr12 rr13 ff0 ff1 ff2 ff3 ff4 ff5 ff6 ff7 ff8 ff9 ff10 ff11 ff12 ff13
    go_upto_region 5 with (go_at_call 44; (with_reducible refine (table_lit 15 _ _ _ HT1.out HT2.out).mono ?_); rintro e w' ⟨rfl, rfl⟩)
    go_region_with (first
      | (go_at_call 46
         (with_reducible refine (fget_any g N 0 at_ w3.drew HF3.out (by omega)).mono ?_)
         rintro e w4 ⟨was, rfl, was0, was1, hb4⟩
         have hb4' : Below w3.heap.size w3 w4 := below_from (d := 1) hb4
         have HK4 := Lib.hid (HK3.out.trans (hb4'.mono HK3.out.size))
         have hA4 := HA3.out.below hb4' HA3.out.lt
         obtain ⟨ab0, ab1, ab2, ab3, ab4, ab5, ab6, ab7, ab8, ab9, ab10, ab11⟩ := cells12 hA4
         have HA4 := Lib.hid hA4
         have HR4 := Lib.hid (HR3.out.below hb4' HR3.out.lt)
         clear hb4 hb4' hA4)
      | (go_at_call 45
         (with_reducible refine (rcells_15 at_ n v an orr bl wl ra rn co ob BA WA bc wc bs ws was w4 HRt.out HWD.out ((HBR.out.below HK4.out).more HK4.out.size) ((HWR.out.below HK4.out).more HK4.out.size) HWS.out was0 was1).mono ?_)
         rintro e w5 ⟨A5, m5, c5, rfl, hm5, ho5, hb5⟩
         have HK5 := Lib.hid (HK4.out.trans (hb5.mono HK4.out.size))
         have HF5 := Lib.hid (HF.out.below HK5.out)
         have HL5 : Hid (CL w5 g A5 m5) := ho5.cl (Nat.lt_of_lt_of_le hgw HK4.out.size)
         have HA5 := Lib.hid (HA4.out.below hb5 HA4.out.lt)
         have HR5 := Lib.hid (HR4.out.below hb5 HR4.out.lt)
         clear hb5 ho5)
      | (go_at_call 13
         (with_reducible refine (fset_any g N A5 m5 c5 w5 HF5.out HL5.out (by omega)).mono ?_)
         rintro e w6 ⟨rfl, hF6, hO6⟩
         have hA6 := hO6.whole HA5.out (by omega)
         have HA6 := Lib.hid hA6
         have HR6 := Lib.hid (hO6.whole HR5.out (by omega))
         obtain ⟨ac0, ac1, ac2, ac3, ac4, ac5, ac6, ac7, ac8, ac9, ac10, ac11⟩ := cells12 hA6
         have HO6 : Hid (Off (fun k => k = g) w w6) := (Off.of_below HK5.out).trans hO6 (fun i hi => .inl hi)
         have HF6 := Lib.hid hF6
         have hz6 : w.heap.size + 1 < w6.heap.size := HR6.out.lt
         clear hA6 hF6 hO6))
    all_goals
      go_wp2_with fail
      refine (recho_15 at_ n v an orr bl wl ra rn co ob BA WA bc wc w6 HRt.out).mono ?_
      rintro e w7 ⟨rfl, hb7⟩
      have hR7 := HR6.out.below hb7 HR6.out.lt
      obtain ⟨rr0, rr1, rr2, rr3, rr4, rr5, rr6, rr7, rr8, rr9, rr10, rr11, rr12, rr13⟩ := cells14 hR7
      obtain ⟨ff0, ff1, ff2, ff3, ff4, ff5, ff6, ff7, ff8, ff9, ff10, ff11, ff12, ff13⟩ := frozen14 hR7
      have HR7 := Lib.hid hR7
      have HO7 := Lib.hid (HO6.out.then hb7)
      have hz7 : w.heap.size + 1 < w7.heap.size := hR7.lt
      clear hR7 hb7
      go_wp2_with fail
      exact end14 Try.results16 HR7.out rfl (Below.refl (w.heap.size) w7) (Nat.le_succ _) rfl rfl fun w9 hbb hk => .inr ⟨rfl, HO7.out.thenB hbb (Nat.le_refl _)⟩

set_option maxRecDepth 100000 in
set_option maxHeartbeats 4000000 in
theorem fdo_16 (g N : Nat) (at_ n v an orr : Int) (bl wl : Nat) (ra rn co ob : Int) (BA WA : Option Addr) (bc wc : Nat) (bs : List Bool) (ws : List Int) (w : World) (hF : FileAt w g N) (hN : N ≤ 800000) (hrt : rightP 16 at_ n v an orr bl wl ra rn co ob) (hwd : Wide at_ n v an orr ra rn co ob) (hbr : BRow w w.heap.size BA bl bs) (hwr : Row .u16 w w.heap.size WA wl ws) (hws : Words ws) :
    Calls Try.prog 16 #[.pointer (some ⟨g, 0, none⟩), .agg #[.int .i64 16, .int .i64 at_, .int .i64 n, .int .u16 v, .int .u16 an, .int .u16 orr, .slice BA bl bc, .slice WA wl wc, .int .i64 ra, .int .i64 rn, .int .i64 co, .int .i64 ob]] w (DoE g 16 at_ n 0 0 0 w) := by
  obtain ⟨hkw, hR, hA⟩ := box2t w 48 28 [.int .i64 16, .int .i64 at_, .int .i64 n, .int .u16 v, .int .u16 an, .int .u16 orr, .slice BA bl bc, .slice WA wl wc, .int .i64 ra, .int .i64 rn, .int .i64 co, .int .i64 ob] [.int .i64 0, .int .i64 0, .slice none 0 0, .slice none 0 0, .int .i64 0, .int .i64 0, .int .u16 0, .int .u16 0, .int .u16 0, .int .i64 0, .int .i64 0, .bool false, .int .i64 0, .slice none 0 0]
  obtain ⟨W, hW⟩ : ∃ W, (w.alloc (.cells #[.int .i64 16, .int .i64 at_, .int .i64 n, .int .u16 v, .int .u16 an, .int .u16 orr, .slice BA bl bc, .slice WA wl wc, .int .i64 ra, .int .i64 rn, .int .i64 co, .int .i64 ob] 48)).alloc (.cells #[.int .i64 0, .int .i64 0, .slice none 0 0, .slice none 0 0, .int .i64 0, .int .i64 0, .int .u16 0, .int .u16 0, .int .u16 0, .int .i64 0, .int .i64 0, .bool false, .int .i64 0, .slice none 0 0] 28) = W := ⟨_, rfl⟩
  rw [show (w.alloc (.cells (List.toArray [.int .i64 16, .int .i64 at_, .int .i64 n, .int .u16 v, .int .u16 an, .int .u16 orr, .slice BA bl bc, .slice WA wl wc, .int .i64 ra, .int .i64 rn, .int .i64 co, .int .i64 ob]) 48)).alloc (.cells (List.toArray [.int .i64 0, .int .i64 0, .slice none 0 0, .slice none 0 0, .int .i64 0, .int .i64 0, .int .u16 0, .int .u16 0, .int .u16 0, .int .i64 0, .int .i64 0, .bool false, .int .i64 0, .slice none 0 0]) 28) = W from hW] at hkw hA hR
  have hgw : g < w.heap.size := hF.lt
  have hsW : w.heap.size + 1 < W.heap.size := hR.lt
  obtain ⟨aa0, aa1, aa2, aa3, aa4, aa5, aa6, aa7, aa8, aa9, aa10, aa11⟩ := cells12 hA
  have HRt := Lib.hid hrt
  have HT1 : Hid (kTab 16 = 2) := rfl
  have HT2 : Hid (kHas 16 = true) := rfl
  go_enter Try.func16, Try.ntmps16
  go_wp2_with fail
  refine (rspans_16 at_ n v an orr bl wl ra rn co ob BA WA bc wc W HRt.out).mono ?_
  rintro e w1 ⟨R, nr, rc, S, ns, sc, rfl, hRr, hSr, hb1⟩
  have hk1 := hkw.trans (hb1.mono hkw.size)
  have hA1 := hA.below hb1 hA.lt
  have hR1 := hR.below hb1 hR.lt
  have hF1 := hF.below hk1
  obtain ⟨L, fn_, fc, hFw, hFl, hFn⟩ := hF1
  have hnr : nr = 0 := by simpa [spR, OneRow] using hRr
  subst hnr
  have hS2 : OneRow w1 S ns (some (2, at_, at_ + n)) := by simpa [spW, kTab] using hSr
  obtain ⟨hns, sB, rfl, hsg, hsl, s0, s1, s2⟩ := row_ne hFw hS2
  subst hns
  clear hRr hSr hS2 aa0 aa1 aa2 aa3 aa4 aa5 aa6 aa7 aa8 aa9 aa10 aa11
  obtain ⟨aa0, aa1, aa2, aa3, aa4, aa5, aa6, aa7, aa8, aa9, aa10, aa11⟩ := cells12 hA1
  go_wp2_with fail
  refine (right_yes 16 at_ n v an orr bl wl ra rn co ob BA WA bc wc w1 HRt.out).mono ?_
  rintro e w2 ⟨rfl, hb2⟩
  have hk2 := hk1.trans (hb2.mono hk1.size)
  have hA2 := hA1.below hb2 hA1.lt
  have hR2 := hR1.below hb2 hR1.lt
  have y0 := (hb2.cell (p := ⟨sB, 0, none⟩) hsl).trans s0
  have y1 := (hb2.cell (p := ⟨sB, 1, none⟩) hsl).trans s1
  have y2 := (hb2.cell (p := ⟨sB, 2, none⟩) hsl).trans s2
  clear aa0 aa1 aa2 aa3 aa4 aa5 aa6 aa7 aa8 aa9 aa10 aa11 s0 s1 s2
  obtain ⟨aa0, aa1, aa2, aa3, aa4, aa5, aa6, aa7, aa8, aa9, aa10, aa11⟩ := cells12 hA2
  go_wp2_with fail
  refine (span12_any 2 at_ (at_ + n) w2).mono ?_
  rintro e w3 ⟨bb, rfl, hb3⟩
  have hk3 := hk2.trans (hb3.mono hk2.size)
  have hA3 := hA2.below hb3 hA2.lt
  have hR3 := hR2.below hb3 hR2.lt
  have hF3 := hF.below hk3
  clear aa0 aa1 aa2 aa3 aa4 aa5 aa6 aa7 aa8 aa9 aa10 aa11
  obtain ⟨aa0, aa1, aa2, aa3, aa4, aa5, aa6, aa7, aa8, aa9, aa10, aa11⟩ := cells12 hA3
  obtain ⟨rr0, rr1, rr2, rr3, rr4, rr5, rr6, rr7, rr8, rr9, rr10, rr11, rr12, rr13⟩ := cells14 hR3
  obtain ⟨ff0, ff1, ff2, ff3, ff4, ff5, ff6, ff7, ff8, ff9, ff10, ff11, ff12, ff13⟩ := frozen14 hR3
  have hy3 : w.heap.size + 1 < w3.heap.size := hR3.lt
  cases bb
  · have HR3 := Lib.hid hR3
    have HK3 := Lib.hid hk3
    clear hA hR hA1 hR1 hA2 hR2 hA3 hR3 hF hFw hFl hFn hF3 hb1 hb2 hb3 hk1 hk2 hk3 hkw hbr hwr hws hwd hrt
    go_wp2_with fail
    exact end14 Try.results16 HR3.out rfl HK3.out (Nat.le_succ _) rfl rfl fun w9 hbb hk => .inl ⟨rfl, Off.of_below hbb⟩
  · have HF3 : Hid (FileAt w3.drew g N) := hF.below hk3.drew
    have HA3 := Lib.hid hA3
    have HR3 := Lib.hid hR3
    have HK3 := Lib.hid hk3
    have HBR := Lib.hid hbr
    have HWR := Lib.hid hwr
    have HWS := Lib.hid hws
    have HWD := Lib.hid hwd
    have HF := Lib.hid hF
    clear hA hR hA1 hR1 hA2 hR2 hA3 hR3 hF hFw hFl hFn hF3 hb1 hb2 hb3 hk1 hk2 hk3 hkw hbr hwr hws hwd hrt rr0 rr1 rr2 rr3 rr4 rr5 rr6 rr7 rr8 rr9 rr10 rr11 rr12 rr13 ff0 ff1 ff2 ff3 ff4 ff5 ff6 ff7 ff8 ff9 ff10 ff11 ff12 ff13
    go_upto_region 5 with (go_at_call 44; (with_reducible refine (table_lit 16 _ _ _ HT1.out HT2.out).mono ?_); rintro e w' ⟨rfl, rfl⟩)
    go_region_with (first
      | (go_at_call 46
         (with_reducible refine (fget_any g N 2 at_ w3.drew HF3.out (by omega)).mono ?_)
         rintro e w4 ⟨was, rfl, was0, was1, hb4⟩
         have hb4' : Below w3.heap.size w3 w4 := below_from (d := 1) hb4
         have HK4 := Lib.hid (HK3.out.trans (hb4'.mono HK3.out.size))
         have hA4 := HA3.out.below hb4' HA3.out.lt
         obtain ⟨ab0, ab1, ab2, ab3, ab4, ab5, ab6, ab7, ab8, ab9, ab10, ab11⟩ := cells12 hA4
         have HA4 := Lib.hid hA4
         have HR4 := Lib.hid (HR3.out.below hb4' HR3.out.lt)
         clear hb4 hb4' hA4)
      | (go_at_call 45
         (with_reducible refine (rcells_16 at_ n v an orr bl wl ra rn co ob BA WA bc wc bs ws was w4 HRt.out HWD.out ((HBR.out.below HK4.out).more HK4.out.size) ((HWR.out.below HK4.out).more HK4.out.size) HWS.out was0 was1).mono ?_)
         rintro e w5 ⟨A5, m5, c5, rfl, hm5, ho5, hb5⟩
         have HK5 := Lib.hid (HK4.out.trans (hb5.mono HK4.out.size))
         have HF5 := Lib.hid (HF.out.below HK5.out)
         have HL5 : Hid (CL w5 g A5 m5) := ho5.cl (Nat.lt_of_lt_of_le hgw HK4.out.size)
         have HA5 := Lib.hid (HA4.out.below hb5 HA4.out.lt)
         have HR5 := Lib.hid (HR4.out.below hb5 HR4.out.lt)
         clear hb5 ho5)
      | (go_at_call 13
         (with_reducible refine (fset_any g N A5 m5 c5 w5 HF5.out HL5.out (by omega)).mono ?_)
         rintro e w6 ⟨rfl, hF6, hO6⟩
         have hA6 := hO6.whole HA5.out (by omega)
         have HA6 := Lib.hid hA6
         have HR6 := Lib.hid (hO6.whole HR5.out (by omega))
         obtain ⟨ac0, ac1, ac2, ac3, ac4, ac5, ac6, ac7, ac8, ac9, ac10, ac11⟩ := cells12 hA6
         have HO6 : Hid (Off (fun k => k = g) w w6) := (Off.of_below HK5.out).trans hO6 (fun i hi => .inl hi)
         have HF6 := Lib.hid hF6
         have hz6 : w.heap.size + 1 < w6.heap.size := HR6.out.lt
         clear hA6 hF6 hO6))
    all_goals
      go_wp2_with fail
      refine (recho_16 at_ n v an orr bl wl ra rn co ob BA WA bc wc w6 HRt.out).mono ?_
      rintro e w7 ⟨rfl, hb7⟩
      have hR7 := HR6.out.below hb7 HR6.out.lt
      obtain ⟨rr0, rr1, rr2, rr3, rr4, rr5, rr6, rr7, rr8, rr9, rr10, rr11, rr12, rr13⟩ := cells14 hR7
      obtain ⟨ff0, ff1, ff2, ff3, ff4, ff5, ff6, ff7, ff8, ff9, ff10, ff11, ff12, ff13⟩ := frozen14 hR7
      have HR7 := Lib.hid hR7
      have HO7 := Lib.hid (HO6.out.then hb7)
      have hz7 : w.heap.size + 1 < w7.heap.size := hR7.lt
      clear hR7 hb7
      go_wp2_with fail
      exact end14 Try.results16 HR7.out rfl (Below.refl (w.heap.size) w7) (Nat.le_succ _) rfl rfl fun w9 hbb hk => .inr ⟨rfl, HO7.out.thenB hbb (Nat.le_refl _)⟩

set_option maxRecDepth 100000 in
set_option maxHeartbeats 4000000 in
theorem fdo_22 (g N : Nat) (at_ n v an orr : Int) (bl wl : Nat) (ra rn co ob : Int) (BA WA : Option Addr) (bc wc : Nat) (bs : List Bool) (ws : List Int) (w : World) (hF : FileAt w g N) (hN : N ≤ 800000) (hrt : rightP 22 at_ n v an orr bl wl ra rn co ob) (hwd : Wide at_ n v an orr ra rn co ob) (hbr : BRow w w.heap.size BA bl bs) (hwr : Row .u16 w w.heap.size WA wl ws) (hws : Words ws) :
    Calls Try.prog 16 #[.pointer (some ⟨g, 0, none⟩), .agg #[.int .i64 22, .int .i64 at_, .int .i64 n, .int .u16 v, .int .u16 an, .int .u16 orr, .slice BA bl bc, .slice WA wl wc, .int .i64 ra, .int .i64 rn, .int .i64 co, .int .i64 ob]] w (DoE g 22 at_ 0 0 an orr w) := by
  obtain ⟨hkw, hR, hA⟩ := box2t w 48 28 [.int .i64 22, .int .i64 at_, .int .i64 n, .int .u16 v, .int .u16 an, .int .u16 orr, .slice BA bl bc, .slice WA wl wc, .int .i64 ra, .int .i64 rn, .int .i64 co, .int .i64 ob] [.int .i64 0, .int .i64 0, .slice none 0 0, .slice none 0 0, .int .i64 0, .int .i64 0, .int .u16 0, .int .u16 0, .int .u16 0, .int .i64 0, .int .i64 0, .bool false, .int .i64 0, .slice none 0 0]
  obtain ⟨W, hW⟩ : ∃ W, (w.alloc (.cells #[.int .i64 22, .int .i64 at_, .int .i64 n, .int .u16 v, .int .u16 an, .int .u16 orr, .slice BA bl bc, .slice WA wl wc, .int .i64 ra, .int .i64 rn, .int .i64 co, .int .i64 ob] 48)).alloc (.cells #[.int .i64 0, .int .i64 0, .slice none 0 0, .slice none 0 0, .int .i64 0, .int .i64 0, .int .u16 0, .int .u16 0, .int .u16 0, .int .i64 0, .int .i64 0, .bool false, .int .i64 0, .slice none 0 0] 28) = W := ⟨_, rfl⟩
  rw [show (w.alloc (.cells (List.toArray [.int .i64 22, .int .i64 at_, .int .i64 n, .int .u16 v, .int .u16 an, .int .u16 orr, .slice BA bl bc, .slice WA wl wc, .int .i64 ra, .int .i64 rn, .int .i64 co, .int .i64 ob]) 48)).alloc (.cells (List.toArray [.int .i64 0, .int .i64 0, .slice none 0 0, .slice none 0 0, .int .i64 0, .int .i64 0, .int .u16 0, .int .u16 0, .int .u16 0, .int .i64 0, .int .i64 0, .bool false, .int .i64 0, .slice none 0 0]) 28) = W from hW] at hkw hA hR
  have hgw : g < w.heap.size := hF.lt
  have hsW : w.heap.size + 1 < W.heap.size := hR.lt
  obtain ⟨aa0, aa1, aa2, aa3, aa4, aa5, aa6, aa7, aa8, aa9, aa10, aa11⟩ := cells12 hA
  have HRt := Lib.hid hrt
  have HT1 : Hid (kTab 22 = 2) := rfl
  have HT2 : Hid (kHas 22 = true) := rfl
  go_enter Try.func16, Try.ntmps16
  go_wp2_with fail
  refine (rspans_22 at_ n v an orr bl wl ra rn co ob BA WA bc wc W HRt.out).mono ?_
  rintro e w1 ⟨R, nr, rc, S, ns, sc, rfl, hRr, hSr, hb1⟩
  have hk1 := hkw.trans (hb1.mono hkw.size)
  have hA1 := hA.below hb1 hA.lt
  have hR1 := hR.below hb1 hR.lt
  have hF1 := hF.below hk1
  obtain ⟨L, fn_, fc, hFw, hFl, hFn⟩ := hF1
  have hnr : nr = 0 := by simpa [spR, OneRow] using hRr
  subst hnr
  have hS2 : OneRow w1 S ns (some (2, at_, at_ + 1)) := by simpa [spW, kTab] using hSr
  obtain ⟨hns, sB, rfl, hsg, hsl, s0, s1, s2⟩ := row_ne hFw hS2
  subst hns
  clear hRr hSr hS2 aa0 aa1 aa2 aa3 aa4 aa5 aa6 aa7 aa8 aa9 aa10 aa11
  obtain ⟨aa0, aa1, aa2, aa3, aa4, aa5, aa6, aa7, aa8, aa9, aa10, aa11⟩ := cells12 hA1
  go_wp2_with fail
  refine (right_yes 22 at_ n v an orr bl wl ra rn co ob BA WA bc wc w1 HRt.out).mono ?_
  rintro e w2 ⟨rfl, hb2⟩
  have hk2 := hk1.trans (hb2.mono hk1.size)
  have hA2 := hA1.below hb2 hA1.lt
  have hR2 := hR1.below hb2 hR1.lt
  have y0 := (hb2.cell (p := ⟨sB, 0, none⟩) hsl).trans s0
  have y1 := (hb2.cell (p := ⟨sB, 1, none⟩) hsl).trans s1
  have y2 := (hb2.cell (p := ⟨sB, 2, none⟩) hsl).trans s2
  clear aa0 aa1 aa2 aa3 aa4 aa5 aa6 aa7 aa8 aa9 aa10 aa11 s0 s1 s2
  obtain ⟨aa0, aa1, aa2, aa3, aa4, aa5, aa6, aa7, aa8, aa9, aa10, aa11⟩ := cells12 hA2
  go_wp2_with fail
  refine (span12_any 2 at_ (at_ + 1) w2).mono ?_
  rintro e w3 ⟨bb, rfl, hb3⟩
  have hk3 := hk2.trans (hb3.mono hk2.size)
  have hA3 := hA2.below hb3 hA2.lt
  have hR3 := hR2.below hb3 hR2.lt
  have hF3 := hF.below hk3
  clear aa0 aa1 aa2 aa3 aa4 aa5 aa6 aa7 aa8 aa9 aa10 aa11
  obtain ⟨aa0, aa1, aa2, aa3, aa4, aa5, aa6, aa7, aa8, aa9, aa10, aa11⟩ := cells12 hA3
  obtain ⟨rr0, rr1, rr2, rr3, rr4, rr5, rr6, rr7, rr8, rr9, rr10, rr11, rr12, rr13⟩ := cells14 hR3
  obtain ⟨ff0, ff1, ff2, ff3, ff4, ff5, ff6, ff7, ff8, ff9, ff10, ff11, ff12, ff13⟩ := frozen14 hR3
  have hy3 : w.heap.size + 1 < w3.heap.size := hR3.lt
  cases bb
  · have HR3 := Lib.hid hR3
    have HK3 := Lib.hid hk3
    clear hA hR hA1 hR1 hA2 hR2 hA3 hR3 hF hFw hFl hFn hF3 hb1 hb2 hb3 hk1 hk2 hk3 hkw hbr hwr hws hwd hrt
    go_wp2_with fail
    exact end14 Try.results16 HR3.out rfl HK3.out (Nat.le_succ _) rfl rfl fun w9 hbb hk => .inl ⟨rfl, Off.of_below hbb⟩
  · have HF3 : Hid (FileAt w3.drew g N) := hF.below hk3.drew
    have HA3 := Lib.hid hA3
    have HR3 := Lib.hid hR3
    have HK3 := Lib.hid hk3
    have HBR := Lib.hid hbr
    have HWR := Lib.hid hwr
    have HWS := Lib.hid hws
    have HWD := Lib.hid hwd
    have HF := Lib.hid hF
    clear hA hR hA1 hR1 hA2 hR2 hA3 hR3 hF hFw hFl hFn hF3 hb1 hb2 hb3 hk1 hk2 hk3 hkw hbr hwr hws hwd hrt rr0 rr1 rr2 rr3 rr4 rr5 rr6 rr7 rr8 rr9 rr10 rr11 rr12 rr13 ff0 ff1 ff2 ff3 ff4 ff5 ff6 ff7 ff8 ff9 ff10 ff11 ff12 ff13
    go_upto_region 5 with (go_at_call 44; (with_reducible refine (table_lit 22 _ _ _ HT1.out HT2.out).mono ?_); rintro e w' ⟨rfl, rfl⟩)
    go_region_with (first
      | (go_at_call 46
         (with_reducible refine (fget_any g N 2 at_ w3.drew HF3.out (by omega)).mono ?_)
         rintro e w4 ⟨was, rfl, was0, was1, hb4⟩
         have hb4' : Below w3.heap.size w3 w4 := below_from (d := 1) hb4
         have HK4 := Lib.hid (HK3.out.trans (hb4'.mono HK3.out.size))
         have hA4 := HA3.out.below hb4' HA3.out.lt
         obtain ⟨ab0, ab1, ab2, ab3, ab4, ab5, ab6, ab7, ab8, ab9, ab10, ab11⟩ := cells12 hA4
         have HA4 := Lib.hid hA4
         have HR4 := Lib.hid (HR3.out.below hb4' HR3.out.lt)
         clear hb4 hb4' hA4)
      | (go_at_call 45
         (with_reducible refine (rcells_22 at_ n v an orr bl wl ra rn co ob BA WA bc wc bs ws was w4 HRt.out HWD.out ((HBR.out.below HK4.out).more HK4.out.size) ((HWR.out.below HK4.out).more HK4.out.size) HWS.out was0 was1).mono ?_)
         rintro e w5 ⟨A5, m5, c5, rfl, hm5, ho5, hb5⟩
         have HK5 := Lib.hid (HK4.out.trans (hb5.mono HK4.out.size))
         have HF5 := Lib.hid (HF.out.below HK5.out)
         have HL5 : Hid (CL w5 g A5 m5) := ho5.cl (Nat.lt_of_lt_of_le hgw HK4.out.size)
         have HA5 := Lib.hid (HA4.out.below hb5 HA4.out.lt)
         have HR5 := Lib.hid (HR4.out.below hb5 HR4.out.lt)
         clear hb5 ho5)
      | (go_at_call 13
         (with_reducible refine (fset_any g N A5 m5 c5 w5 HF5.out HL5.out (by omega)).mono ?_)
         rintro e w6 ⟨rfl, hF6, hO6⟩
         have hA6 := hO6.whole HA5.out (by omega)
         have HA6 := Lib.hid hA6
         have HR6 := Lib.hid (hO6.whole HR5.out (by omega))
         obtain ⟨ac0, ac1, ac2, ac3, ac4, ac5, ac6, ac7, ac8, ac9, ac10, ac11⟩ := cells12 hA6
         have HO6 : Hid (Off (fun k => k = g) w w6) := (Off.of_below HK5.out).trans hO6 (fun i hi => .inl hi)
         have HF6 := Lib.hid hF6
         have hz6 : w.heap.size + 1 < w6.heap.size := HR6.out.lt
         clear hA6 hF6 hO6))
    all_goals
      go_wp2_with fail
      refine (recho_22 at_ n v an orr bl wl ra rn co ob BA WA bc wc w6 HRt.out).mono ?_
      rintro e w7 ⟨rfl, hb7⟩
      have hR7 := HR6.out.below hb7 HR6.out.lt
      obtain ⟨rr0, rr1, rr2, rr3, rr4, rr5, rr6, rr7, rr8, rr9, rr10, rr11, rr12, rr13⟩ := cells14 hR7
      obtain ⟨ff0, ff1, ff2, ff3, ff4, ff5, ff6, ff7, ff8, ff9, ff10, ff11, ff12, ff13⟩ := frozen14 hR7
      have HR7 := Lib.hid hR7
      have HO7 := Lib.hid (HO6.out.then hb7)
      have hz7 : w.heap.size + 1 < w7.heap.size := hR7.lt
      clear hR7 hb7
      go_wp2_with fail
      exact end14 Try.results16 HR7.out rfl (Below.refl (w.heap.size) w7) (Nat.le_succ _) rfl rfl fun w9 hbb hk => .inr ⟨rfl, HO7.out.thenB hbb (Nat.le_refl _)⟩

set_option maxRecDepth 100000 in
set_option maxHeartbeats 4000000 in
theorem fdo_43 (g N : Nat) (at_ n v an orr : Int) (bl wl : Nat) (ra rn co ob : Int) (BA WA : Option Addr) (bc wc : Nat) (bs : List Bool) (ws : List Int) (w : World) (hF : FileAt w g N) (hN : N ≤ 800000) (hrt : rightP 43 at_ n v an orr bl wl ra rn co ob) (hwd : Wide at_ n v an orr ra rn co ob) (hbr : BRow w w.heap.size BA bl bs) (hwr : Row .u16 w w.heap.size WA wl ws) (hws : Words ws) :
    Calls Try.prog 16 #[.pointer (some ⟨g, 0, none⟩), .agg #[.int .i64 43, .int .i64 at_, .int .i64 n, .int .u16 v, .int .u16 an, .int .u16 orr, .slice BA bl bc, .slice WA wl wc, .int .i64 ra, .int .i64 rn, .int .i64 co, .int .i64 ob]] w (DoNo g w) := by
  obtain ⟨hkw, hR, hA⟩ := box2t w 48 28 [.int .i64 43, .int .i64 at_, .int .i64 n, .int .u16 v, .int .u16 an, .int .u16 orr, .slice BA bl bc, .slice WA wl wc, .int .i64 ra, .int .i64 rn, .int .i64 co, .int .i64 ob] [.int .i64 0, .int .i64 0, .slice none 0 0, .slice none 0 0, .int .i64 0, .int .i64 0, .int .u16 0, .int .u16 0, .int .u16 0, .int .i64 0, .int .i64 0, .bool false, .int .i64 0, .slice none 0 0]
  obtain ⟨W, hW⟩ : ∃ W, (w.alloc (.cells #[.int .i64 43, .int .i64 at_, .int .i64 n, .int .u16 v, .int .u16 an, .int .u16 orr, .slice BA bl bc, .slice WA wl wc, .int .i64 ra, .int .i64 rn, .int .i64 co, .int .i64 ob] 48)).alloc (.cells #[.int .i64 0, .int .i64 0, .slice none 0 0, .slice none 0 0, .int .i64 0, .int .i64 0, .int .u16 0, .int .u16 0, .int .u16 0, .int .i64 0, .int .i64 0, .bool false, .int .i64 0, .slice none 0 0] 28) = W := ⟨_, rfl⟩
  rw [show (w.alloc (.cells (List.toArray [.int .i64 43, .int .i64 at_, .int .i64 n, .int .u16 v, .int .u16 an, .int .u16 orr, .slice BA bl bc, .slice WA wl wc, .int .i64 ra, .int .i64 rn, .int .i64 co, .int .i64 ob]) 48)).alloc (.cells (List.toArray [.int .i64 0, .int .i64 0, .slice none 0 0, .slice none 0 0, .int .i64 0, .int .i64 0, .int .u16 0, .int .u16 0, .int .u16 0, .int .i64 0, .int .i64 0, .bool false, .int .i64 0, .slice none 0 0]) 28) = W from hW] at hkw hA hR
  have hgw : g < w.heap.size := hF.lt
  have hsW : w.heap.size + 1 < W.heap.size := hR.lt
  obtain ⟨aa0, aa1, aa2, aa3, aa4, aa5, aa6, aa7, aa8, aa9, aa10, aa11⟩ := cells12 hA
  have HRt := Lib.hid hrt
  have HT1 : Hid (kTab 43 = 0) := rfl
  have HT2 : Hid (kHas 43 = false) := rfl
  go_enter Try.func16, Try.ntmps16
  go_wp2_with fail
  refine (rspans_43 at_ n v an orr bl wl ra rn co ob BA WA bc wc W HRt.out).mono ?_
  rintro e w1 ⟨R, nr, rc, S, ns, sc, rfl, hRr, hSr, hb1⟩
  have hk1 := hkw.trans (hb1.mono hkw.size)
  have hA1 := hA.below hb1 hA.lt
  have hR1 := hR.below hb1 hR.lt
  have hF1 := hF.below hk1
  obtain ⟨L, fn_, fc, hFw, hFl, hFn⟩ := hF1
  have hnr : nr = 0 := by simpa [spR, OneRow] using hRr
  have hns : ns = 0 := by simpa [spW, OneRow] using hSr
  subst hnr hns
  clear hRr hSr aa0 aa1 aa2 aa3 aa4 aa5 aa6 aa7 aa8 aa9 aa10 aa11
  obtain ⟨aa0, aa1, aa2, aa3, aa4, aa5, aa6, aa7, aa8, aa9, aa10, aa11⟩ := cells12 hA1
  go_wp2_with fail
  refine (right_yes 43 at_ n v an orr bl wl ra rn co ob BA WA bc wc w1 HRt.out).mono ?_
  rintro e w3 ⟨rfl, hb3⟩
  have hk2 := hk1
  have hA2 := hA1
  have hR2 := hR1
  have hb2 := hb1
  have hk3 := hk2.trans (hb3.mono hk2.size)
  have hA3 := hA2.below hb3 hA2.lt
  have hR3 := hR2.below hb3 hR2.lt
  have hF3 := hF.below hk3
  clear aa0 aa1 aa2 aa3 aa4 aa5 aa6 aa7 aa8 aa9 aa10 aa11
  obtain ⟨aa0, aa1, aa2, aa3, aa4, aa5, aa6, aa7, aa8, aa9, aa10, aa11⟩ := cells12 hA3
  obtain ⟨rr0, rr1, rr2, rr3, rr4, rr5, rr6, rr7, rr8, rr9, rr10, rr11, rr12, rr13⟩ := cells14 hR3
  obtain ⟨ff0, ff1, ff2, ff3, ff4, ff5, ff6, ff7, ff8, ff9, ff10, ff11, ff12, ff13⟩ := frozen14 hR3
  have hy3 : w.heap.size + 1 < w3.heap.size := hR3.lt
  have HR3 := Lib.hid hR3
  have HK3 := Lib.hid hk3
  clear hA hR hA1 hR1 hA2 hR2 hA3 hR3 hF hFw hFl hFn hF3 hb1 hb2 hb3 hk1 hk2 hk3 hkw hbr hwr hws hwd hrt
  go_wp2_with fail
  exact end14 Try.results16 HR3.out rfl HK3.out (Nat.le_succ _) rfl rfl fun w9 hbb hk => ⟨rfl, Off.of_below hbb⟩

end Go.Proofs.Ytielfekkonflfaa

/- busbarlaw5.AskTells, case by case. -/
import Derived.Test.YtijfeffjjcbijaaLATells0
namespace Go.Proofs.Ytijfeffjjcbijaa
open Go.ChangeShapes Go.WideShapes Go.ChangeAt Go.RowKit
set_option linter.unusedVariables false
set_option linter.unusedSimpArgs false


set_option maxRecDepth 100000 in
set_option maxHeartbeats 8000000 in
theorem atells_9 (fn at_ n y an orr : Int) (bs : List Bool) (ws : List Int) (ra rn co ob : Int) (BA WA : Option Addr) (bl wl bc wc : Nat) (k v x m : Int) (w : World) (hwd : Wide at_ n y an orr ra rn co ob) (hbr : BRow w w.heap.size BA bl bs) (hwr : Row .u16 w w.heap.size WA wl ws) (hxw : Words ws) (k0 : -9223372036854775808 ≤ k) (k1 : k ≤ 9223372036854775807) (v0 : -9223372036854775808 ≤ v) (v1 : v ≤ 9223372036854775807) (x0 : -9223372036854775808 ≤ x) (x1 : x ≤ 9223372036854775807) (m0 : -9223372036854775808 ≤ m) (m1 : m ≤ 9223372036854775807) (hf : bl ≤ 2100 ∧ wl ≤ 200) (hi : x % 10 = 9) :
    Calls Try.prog 3 #[.agg #[.int .i64 fn, .int .i64 at_, .int .i64 n, .int .u16 y, .int .u16 an, .int .u16 orr, .slice BA bl bc, .slice WA wl wc, .int .i64 ra, .int .i64 rn, .int .i64 co, .int .i64 ob], .int .i64 k, .int .i64 v, .int .i64 x, .int .i64 m] w fun e w' => e = .returned (.bool true) ∧ Below w.heap.size w w' := by
  have HF := Lib.hid (decide_eq_true hf)
  have hbl : bl ≤ 3000 := by omega
  have hwl : wl ≤ 3000 := by omega
  have HI := Lib.hid hi
  have HWd := Lib.hid hwd
  have HXW := Lib.hid hxw
  have HBR : Hid (∀ X, Below w.heap.size w X → BRow X X.heap.size BA bl bs) := fun X hX => (hbr.below hX).more hX.size
  have HWR : Hid (∀ X, Below w.heap.size w X → Row .u16 X X.heap.size WA wl ws) := fun X hX => (hwr.below hX).more hX.size
  clear hf hi hwd hbr hwr hxw
  obtain ⟨p9, hp9⟩ : ∃ z, m % 2 = z := ⟨_, rfl⟩
  obtain ⟨q9, hq9⟩ : ∃ z, (m.tdiv 2) % 2 = z := ⟨_, rfl⟩
  have p90 : 0 ≤ p9 := by omega
  have p91 : p9 ≤ 1 := by omega
  have q90 : 0 ≤ q9 := by omega
  have q91 : q9 ≤ 1 := by omega
  have HP9 := Lib.hid hp9
  have HQ9 := Lib.hid hq9
  clear hp9 hq9
  go_enter Try.func3, Try.ntmps3
  go_wp2_with (first
    | (go_at_call 16
       refine (few_lit fn at_ n y an orr ra rn co ob BA WA bl wl bc wc _ true HF.out).mono ?_
       rintro e w1 ⟨rfl, hb1⟩
       have hk1 : Below (w.heap.size + 1) (w.alloc (.cells #[.int .i64 fn, .int .i64 at_, .int .i64 n, .int .u16 y, .int .u16 an, .int .u16 orr, .slice BA bl bc, .slice WA wl wc, .int .i64 ra, .int .i64 rn, .int .i64 co, .int .i64 ob] 26)) w1 := by
         rwa [show (w.alloc (.cells #[.int .i64 fn, .int .i64 at_, .int .i64 n, .int .u16 y, .int .u16 an, .int .u16 orr, .slice BA bl bc, .slice WA wl wc, .int .i64 ra, .int .i64 rn, .int .i64 co, .int .i64 ob] 26)).heap.size = w.heap.size + 1 by simp] at hb1
       have HA1 := Lib.hid (wbox12 _ _ _ _ _ _ _ _ _ _ _ _ _ w w1 hk1)
       have HB1 : Hid (Below w.heap.size w w1) := ((Below.refl _ _).alloc (Nat.le_refl _) _).trans (hb1.mono (by simp))
       clear hb1 hk1)
    | (go_at_call 17
       refine (awake_any _).mono ?_
       rintro e w2 ⟨rfl, hb2⟩
       have HB2 := Lib.hid (HB1.out.trans (hb2.mono HB1.out.size))
       have HA2 := Lib.hid (HA1.out.below hb2 HA1.out.lt)
       clear hb2)
    | (go_at_call 18
       refine (lask_any k v _ k0 k1 v0 v1).mono ?_
       rintro e w3 ⟨f2, a2, n2, y2, b2, o2, bl2, wl2, r2, m2, c2, j2, B2, W2, bd, wd, bs2, ws2, rfl, hrt2, hwd2, hws2, hob2, how2, hb3⟩
       obtain rfl : bs2.length = bl2 := (own_row hob2).bools.1
       obtain rfl : ws2.length = wl2 := (own_row how2).ints.1
       have s2 := small_of hrt2
       have s3 : bs2.length ≤ 2000 := s2.1
       have s4 : ws2.length ≤ 2000 := s2.2
       have ha3 := HA2.out.below hb3 HA2.out.lt
       have hy3 : w.heap.size < w3.heap.size := ha3.lt
       obtain ⟨hq0, hq1, hq2, hq3, hq4, hq5, hq6, hq7, hq8, hq9, hq10, hq11⟩ := cells12 ha3
       have HA3 := Lib.hid ha3
       have HB3 := Lib.hid (HB2.out.trans (hb3.mono HB2.out.size))
       have HB23 := Lib.hid hb3
       have HRt2 := Lib.hid hrt2
       have HWd2 := Lib.hid hwd2
       have HWs2 := Lib.hid hws2
       have HOb2 := Lib.hid hob2
       have HOw2 := Lib.hid how2
       clear hrt2 hwd2 hws2 hob2 how2 hb3 s2 ha3)
    | (go_at_call 19; (with_reducible refine (within_any x 10 _ x0 x1 (by omega) (by omega)).mono ?_); rintro e w' ⟨rfl, rfl⟩; rw [HI.out]))
  have hcd := codes_of HRt2.out
  have cd0 := hcd.1
  have cd1 := hcd.2.1
  have cd2 := hcd.2.2.1
  have cd3 := hcd.2.2.2
  clear hcd
  go_region_with (first
    | (go_at_call 19; (with_reducible refine (within_lit m 2 p9 _ HP9.out m0 m1 (by omega) (by omega)).mono ?_); rintro e w' ⟨rfl, rfl⟩)
    | (go_at_call 20; (with_reducible refine (digit_lit m 2 2 q9 _ HQ9.out m0 m1 (by omega) (by omega) (by omega) (by omega)).mono ?_); rintro e w' ⟨rfl, rfl⟩))
  all_goals
    go_wp2_with fail
    have hk3 : Below w3.heap.size w3 (w3.alloc (.cells #[.int .i64 f2, .int .i64 a2, .int .i64 n2, .int .u16 y2, .int .u16 b2, .int .u16 o2, .slice B2 bs2.length bd, .slice W2 ws2.length wd, .int .i64 r2, .int .i64 m2, .int .i64 (c2 + p9), .int .i64 (j2 + q9)] 26)).drew := ((Below.refl _ _).alloc (Nat.le_refl _) _).drew
    have HK3 := Lib.hid hk3
    have HB4 : Hid (Below w.heap.size w (w3.alloc (.cells #[.int .i64 f2, .int .i64 a2, .int .i64 n2, .int .u16 y2, .int .u16 b2, .int .u16 o2, .slice B2 bs2.length bd, .slice W2 ws2.length wd, .int .i64 r2, .int .i64 m2, .int .i64 (c2 + p9), .int .i64 (j2 + q9)] 26)).drew) := HB3.out.trans (hk3.mono HB3.out.size)
    have h4 : WholeV (w3.alloc (.cells #[.int .i64 f2, .int .i64 a2, .int .i64 n2, .int .u16 y2, .int .u16 b2, .int .u16 o2, .slice B2 bs2.length bd, .slice W2 ws2.length wd, .int .i64 r2, .int .i64 m2, .int .i64 (c2 + p9), .int .i64 (j2 + q9)] 26)).drew w3.heap.size 26 [.int .i64 f2, .int .i64 a2, .int .i64 n2, .int .u16 y2, .int .u16 b2, .int .u16 o2, .slice B2 bs2.length bd, .slice W2 ws2.length wd, .int .i64 r2, .int .i64 m2, .int .i64 (c2 + p9), .int .i64 (j2 + q9)] := heap_alloc_new w3 _
    have H4 := Lib.hid h4
    clear hk3 h4
    refine (ltells_any fn at_ n y an orr bs ws ra rn co ob BA WA bl wl bc wc _ HWd.out (HBR.out _ HB4.out) (HWR.out _ HB4.out) HXW.out hbl hwl).mono ?_
    rintro e w5 ⟨rfl, hb5⟩
    have h5 := H4.out.below hb5 H4.out.lt
    obtain ⟨p0, p1, p2, p3, p4, p5, p6, p7, p8, pp9, p10, p11⟩ := cells12 h5
    have hy5 : w3.heap.size < w5.heap.size := h5.lt
    have HB35 := Lib.hid (HK3.out.trans (hb5.mono HK3.out.size))
    have HB5 := Lib.hid (HB4.out.trans (hb5.mono HB4.out.size))
    clear h5 hb5
    go_wp2_with fail
    refine (ltells_any f2 a2 n2 y2 b2 o2 bs2 ws2 r2 m2 (c2 + p9) (j2 + q9) B2 W2 bs2.length ws2.length bd wd _ ⟨HWd2.out.a0, HWd2.out.a1, HWd2.out.n0, HWd2.out.n1, HWd2.out.v0, HWd2.out.v1, HWd2.out.x0, HWd2.out.x1, HWd2.out.o0, HWd2.out.o1, HWd2.out.r0, HWd2.out.r1, HWd2.out.m0, HWd2.out.m1, by omega, by omega, by omega, by omega⟩ (((own_row HOb2.out).bools.below HB35.out).more HB35.out.size) (((own_row HOw2.out).ints.below HB35.out).more HB35.out.size) HWs2.out (by omega) (by omega)).mono ?_
    rintro e w6 ⟨rfl, hb6⟩
    have HB6 := Lib.hid (HB5.out.trans (hb6.mono HB5.out.size))
    clear hb6
    go_wp2
    go_ret
    exact ⟨rfl, HB6.out⟩

end Go.Proofs.Ytijfeffjjcbijaa

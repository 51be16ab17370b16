/- busbarlaw5.AskTells, case by case. -/
import Derived.Test.YtijfeffjjcbijaaLATells0
namespace Go.Proofs.Ytijfeffjjcbijaa
open Go.ChangeShapes Go.WideShapes Go.ChangeAt Go.RowKit
set_option linter.unusedVariables false
set_option linter.unusedSimpArgs false


set_option maxRecDepth 100000 in
set_option maxHeartbeats 1000000 in
theorem atells_0 (fn at_ n y an orr : Int) (bs : List Bool) (ws : List Int) (ra rn co ob : Int) (BA WA : Option Addr) (bl wl bc wc : Nat) (k v x m : Int) (w : World) (hwd : Wide at_ n y an orr ra rn co ob) (hbr : BRow w w.heap.size BA bl bs) (hwr : Row .u16 w w.heap.size WA wl ws) (hxw : Words ws) (k0 : -9223372036854775808 ≤ k) (k1 : k ≤ 9223372036854775807) (v0 : -9223372036854775808 ≤ v) (v1 : v ≤ 9223372036854775807) (x0 : -9223372036854775808 ≤ x) (x1 : x ≤ 9223372036854775807) (m0 : -9223372036854775808 ≤ m) (m1 : m ≤ 9223372036854775807) (hf : bl ≤ 2100 ∧ wl ≤ 200) (hi : x % 10 = 0) :
    Calls Try.prog 3 #[.agg #[.int .i64 fn, .int .i64 at_, .int .i64 n, .int .u16 y, .int .u16 an, .int .u16 orr, .slice BA bl bc, .slice WA wl wc, .int .i64 ra, .int .i64 rn, .int .i64 co, .int .i64 ob], .int .i64 k, .int .i64 v, .int .i64 x, .int .i64 m] w fun e w' => e = .returned (.bool true) ∧ Below w.heap.size w w' := by
  have HF := Lib.hid (decide_eq_true hf)
  have hbl : bl ≤ 3000 := by omega
  have hwl : wl ≤ 3000 := by omega
  have HI := Lib.hid hi
  have HWd := Lib.hid hwd
  have HXW := Lib.hid hxw
  have HBR : Hid (∀ X, Below w.heap.size w X → BRow X X.heap.size BA bl bs) := fun X hX => (hbr.below hX).more hX.size
  have HWR : Hid (∀ X, Below w.heap.size w X → Row .u16 X X.heap.size WA wl ws) := fun X hX => (hwr.below hX).more hX.size
  clear hf hi hwd hbr hwr hxw
  go_enter Try.func3, Try.ntmps3
  go_wp2_with (first
    | (go_at_call 16
       refine (few_lit fn at_ n y an orr ra rn co ob BA WA bl wl bc wc _ true HF.out).mono ?_
       rintro e w1 ⟨rfl, hb1⟩
       have hk1 : Below (w.heap.size + 1) (w.alloc (.cells #[.int .i64 fn, .int .i64 at_, .int .i64 n, .int .u16 y, .int .u16 an, .int .u16 orr, .slice BA bl bc, .slice WA wl wc, .int .i64 ra, .int .i64 rn, .int .i64 co, .int .i64 ob] 26)) w1 := by
         rwa [show (w.alloc (.cells #[.int .i64 fn, .int .i64 at_, .int .i64 n, .int .u16 y, .int .u16 an, .int .u16 orr, .slice BA bl bc, .slice WA wl wc, .int .i64 ra, .int .i64 rn, .int .i64 co, .int .i64 ob] 26)).heap.size = w.heap.size + 1 by simp] at hb1
       have HA1 := Lib.hid (wbox12 _ _ _ _ _ _ _ _ _ _ _ _ _ w w1 hk1)
       have HB1 : Hid (Below w.heap.size w w1) := ((Below.refl _ _).alloc (Nat.le_refl _) _).trans (hb1.mono (by simp))
       clear hb1 hk1)
    | (go_at_call 17
       refine (awake_any _).mono ?_
       rintro e w2 ⟨rfl, hb2⟩
       have HB2 := Lib.hid (HB1.out.trans (hb2.mono HB1.out.size))
       have HA2 := Lib.hid (HA1.out.below hb2 HA1.out.lt)
       clear hb2)
    | (go_at_call 18
       refine (lask_any k v _ k0 k1 v0 v1).mono ?_
       rintro e w3 ⟨f2, a2, n2, y2, b2, o2, bl2, wl2, r2, m2, c2, j2, B2, W2, bd, wd, bs2, ws2, rfl, hrt2, hwd2, hws2, hob2, how2, hb3⟩
       obtain rfl : bs2.length = bl2 := (own_row hob2).bools.1
       obtain rfl : ws2.length = wl2 := (own_row how2).ints.1
       have s2 := small_of hrt2
       have s3 : bs2.length ≤ 2000 := s2.1
       have s4 : ws2.length ≤ 2000 := s2.2
       have ha3 := HA2.out.below hb3 HA2.out.lt
       have hy3 : w.heap.size < w3.heap.size := ha3.lt
       obtain ⟨hq0, hq1, hq2, hq3, hq4, hq5, hq6, hq7, hq8, hq9, hq10, hq11⟩ := cells12 ha3
       have HA3 := Lib.hid ha3
       have HB3 := Lib.hid (HB2.out.trans (hb3.mono HB2.out.size))
       have HB23 := Lib.hid hb3
       have HRt2 := Lib.hid hrt2
       have HWd2 := Lib.hid hwd2
       have HWs2 := Lib.hid hws2
       have HOb2 := Lib.hid hob2
       have HOw2 := Lib.hid how2
       clear hrt2 hwd2 hws2 hob2 how2 hb3 s2 ha3)
    | (go_at_call 19; (with_reducible refine (within_any x 10 _ x0 x1 (by omega) (by omega)).mono ?_); rintro e w' ⟨rfl, rfl⟩; rw [HI.out]))
  have hk3 : Below w3.heap.size w3 (w3.alloc (.cells #[.int .i64 f2, .int .i64 m, .int .i64 n2, .int .u16 y2, .int .u16 b2, .int .u16 o2, .slice B2 bs2.length bd, .slice W2 ws2.length wd, .int .i64 r2, .int .i64 m2, .int .i64 c2, .int .i64 j2] 26)) := (Below.refl _ _).alloc (Nat.le_refl _) _
  have HK3 := Lib.hid hk3
  have HB4 : Hid (Below w.heap.size w (w3.alloc (.cells #[.int .i64 f2, .int .i64 m, .int .i64 n2, .int .u16 y2, .int .u16 b2, .int .u16 o2, .slice B2 bs2.length bd, .slice W2 ws2.length wd, .int .i64 r2, .int .i64 m2, .int .i64 c2, .int .i64 j2] 26))) := HB3.out.trans (hk3.mono HB3.out.size)
  have h4 : WholeV (w3.alloc (.cells #[.int .i64 f2, .int .i64 m, .int .i64 n2, .int .u16 y2, .int .u16 b2, .int .u16 o2, .slice B2 bs2.length bd, .slice W2 ws2.length wd, .int .i64 r2, .int .i64 m2, .int .i64 c2, .int .i64 j2] 26)) w3.heap.size 26 [.int .i64 f2, .int .i64 m, .int .i64 n2, .int .u16 y2, .int .u16 b2, .int .u16 o2, .slice B2 bs2.length bd, .slice W2 ws2.length wd, .int .i64 r2, .int .i64 m2, .int .i64 c2, .int .i64 j2] := heap_alloc_new w3 _
  have H4 := Lib.hid h4
  clear hk3 h4
  refine (ltells_any fn at_ n y an orr bs ws ra rn co ob BA WA bl wl bc wc _ HWd.out (HBR.out _ HB4.out) (HWR.out _ HB4.out) HXW.out hbl hwl).mono ?_
  rintro e w5 ⟨rfl, hb5⟩
  have h5 := H4.out.below hb5 H4.out.lt
  obtain ⟨p0, p1, p2, p3, p4, p5, p6, p7, p8, p9, p10, p11⟩ := cells12 h5
  have hy5 : w3.heap.size < w5.heap.size := h5.lt
  have HB35 := Lib.hid (HK3.out.trans (hb5.mono HK3.out.size))
  have HB5 := Lib.hid (HB4.out.trans (hb5.mono HB4.out.size))
  clear h5 hb5
  go_wp2_with fail
  refine (ltells_any f2 m n2 y2 b2 o2 bs2 ws2 r2 m2 c2 j2 B2 W2 bs2.length ws2.length bd wd _ ⟨m0, m1, HWd2.out.n0, HWd2.out.n1, HWd2.out.v0, HWd2.out.v1, HWd2.out.x0, HWd2.out.x1, HWd2.out.o0, HWd2.out.o1, HWd2.out.r0, HWd2.out.r1, HWd2.out.m0, HWd2.out.m1, HWd2.out.c0, HWd2.out.c1, HWd2.out.b0, HWd2.out.b1⟩ (((own_row HOb2.out).bools.below HB35.out).more HB35.out.size) (((own_row HOw2.out).ints.below HB35.out).more HB35.out.size) HWs2.out (by omega) (by omega)).mono ?_
  rintro e w6 ⟨rfl, hb6⟩
  have HB6 := Lib.hid (HB5.out.trans (hb6.mono HB5.out.size))
  clear hb6
  go_wp2
  go_ret
  exact ⟨rfl, HB6.out⟩

set_option maxRecDepth 100000 in
set_option maxHeartbeats 1000000 in
theorem atells_1 (fn at_ n y an orr : Int) (bs : List Bool) (ws : List Int) (ra rn co ob : Int) (BA WA : Option Addr) (bl wl bc wc : Nat) (k v x m : Int) (w : World) (hwd : Wide at_ n y an orr ra rn co ob) (hbr : BRow w w.heap.size BA bl bs) (hwr : Row .u16 w w.heap.size WA wl ws) (hxw : Words ws) (k0 : -9223372036854775808 ≤ k) (k1 : k ≤ 9223372036854775807) (v0 : -9223372036854775808 ≤ v) (v1 : v ≤ 9223372036854775807) (x0 : -9223372036854775808 ≤ x) (x1 : x ≤ 9223372036854775807) (m0 : -9223372036854775808 ≤ m) (m1 : m ≤ 9223372036854775807) (hf : bl ≤ 2100 ∧ wl ≤ 200) (hi : x % 10 = 1) :
    Calls Try.prog 3 #[.agg #[.int .i64 fn, .int .i64 at_, .int .i64 n, .int .u16 y, .int .u16 an, .int .u16 orr, .slice BA bl bc, .slice WA wl wc, .int .i64 ra, .int .i64 rn, .int .i64 co, .int .i64 ob], .int .i64 k, .int .i64 v, .int .i64 x, .int .i64 m] w fun e w' => e = .returned (.bool true) ∧ Below w.heap.size w w' := by
  have HF := Lib.hid (decide_eq_true hf)
  have hbl : bl ≤ 3000 := by omega
  have hwl : wl ≤ 3000 := by omega
  have HI := Lib.hid hi
  have HWd := Lib.hid hwd
  have HXW := Lib.hid hxw
  have HBR : Hid (∀ X, Below w.heap.size w X → BRow X X.heap.size BA bl bs) := fun X hX => (hbr.below hX).more hX.size
  have HWR : Hid (∀ X, Below w.heap.size w X → Row .u16 X X.heap.size WA wl ws) := fun X hX => (hwr.below hX).more hX.size
  clear hf hi hwd hbr hwr hxw
  go_enter Try.func3, Try.ntmps3
  go_wp2_with (first
    | (go_at_call 16
       refine (few_lit fn at_ n y an orr ra rn co ob BA WA bl wl bc wc _ true HF.out).mono ?_
       rintro e w1 ⟨rfl, hb1⟩
       have hk1 : Below (w.heap.size + 1) (w.alloc (.cells #[.int .i64 fn, .int .i64 at_, .int .i64 n, .int .u16 y, .int .u16 an, .int .u16 orr, .slice BA bl bc, .slice WA wl wc, .int .i64 ra, .int .i64 rn, .int .i64 co, .int .i64 ob] 26)) w1 := by
         rwa [show (w.alloc (.cells #[.int .i64 fn, .int .i64 at_, .int .i64 n, .int .u16 y, .int .u16 an, .int .u16 orr, .slice BA bl bc, .slice WA wl wc, .int .i64 ra, .int .i64 rn, .int .i64 co, .int .i64 ob] 26)).heap.size = w.heap.size + 1 by simp] at hb1
       have HA1 := Lib.hid (wbox12 _ _ _ _ _ _ _ _ _ _ _ _ _ w w1 hk1)
       have HB1 : Hid (Below w.heap.size w w1) := ((Below.refl _ _).alloc (Nat.le_refl _) _).trans (hb1.mono (by simp))
       clear hb1 hk1)
    | (go_at_call 17
       refine (awake_any _).mono ?_
       rintro e w2 ⟨rfl, hb2⟩
       have HB2 := Lib.hid (HB1.out.trans (hb2.mono HB1.out.size))
       have HA2 := Lib.hid (HA1.out.below hb2 HA1.out.lt)
       clear hb2)
    | (go_at_call 18
       refine (lask_any k v _ k0 k1 v0 v1).mono ?_
       rintro e w3 ⟨f2, a2, n2, y2, b2, o2, bl2, wl2, r2, m2, c2, j2, B2, W2, bd, wd, bs2, ws2, rfl, hrt2, hwd2, hws2, hob2, how2, hb3⟩
       obtain rfl : bs2.length = bl2 := (own_row hob2).bools.1
       obtain rfl : ws2.length = wl2 := (own_row how2).ints.1
       have s2 := small_of hrt2
       have s3 : bs2.length ≤ 2000 := s2.1
       have s4 : ws2.length ≤ 2000 := s2.2
       have ha3 := HA2.out.below hb3 HA2.out.lt
       have hy3 : w.heap.size < w3.heap.size := ha3.lt
       obtain ⟨hq0, hq1, hq2, hq3, hq4, hq5, hq6, hq7, hq8, hq9, hq10, hq11⟩ := cells12 ha3
       have HA3 := Lib.hid ha3
       have HB3 := Lib.hid (HB2.out.trans (hb3.mono HB2.out.size))
       have HB23 := Lib.hid hb3
       have HRt2 := Lib.hid hrt2
       have HWd2 := Lib.hid hwd2
       have HWs2 := Lib.hid hws2
       have HOb2 := Lib.hid hob2
       have HOw2 := Lib.hid how2
       clear hrt2 hwd2 hws2 hob2 how2 hb3 s2 ha3)
    | (go_at_call 19; (with_reducible refine (within_any x 10 _ x0 x1 (by omega) (by omega)).mono ?_); rintro e w' ⟨rfl, rfl⟩; rw [HI.out]))
  have hk3 : Below w3.heap.size w3 (w3.alloc (.cells #[.int .i64 f2, .int .i64 a2, .int .i64 m, .int .u16 y2, .int .u16 b2, .int .u16 o2, .slice B2 bs2.length bd, .slice W2 ws2.length wd, .int .i64 r2, .int .i64 m2, .int .i64 c2, .int .i64 j2] 26)) := (Below.refl _ _).alloc (Nat.le_refl _) _
  have HK3 := Lib.hid hk3
  have HB4 : Hid (Below w.heap.size w (w3.alloc (.cells #[.int .i64 f2, .int .i64 a2, .int .i64 m, .int .u16 y2, .int .u16 b2, .int .u16 o2, .slice B2 bs2.length bd, .slice W2 ws2.length wd, .int .i64 r2, .int .i64 m2, .int .i64 c2, .int .i64 j2] 26))) := HB3.out.trans (hk3.mono HB3.out.size)
  have h4 : WholeV (w3.alloc (.cells #[.int .i64 f2, .int .i64 a2, .int .i64 m, .int .u16 y2, .int .u16 b2, .int .u16 o2, .slice B2 bs2.length bd, .slice W2 ws2.length wd, .int .i64 r2, .int .i64 m2, .int .i64 c2, .int .i64 j2] 26)) w3.heap.size 26 [.int .i64 f2, .int .i64 a2, .int .i64 m, .int .u16 y2, .int .u16 b2, .int .u16 o2, .slice B2 bs2.length bd, .slice W2 ws2.length wd, .int .i64 r2, .int .i64 m2, .int .i64 c2, .int .i64 j2] := heap_alloc_new w3 _
  have H4 := Lib.hid h4
  clear hk3 h4
  refine (ltells_any fn at_ n y an orr bs ws ra rn co ob BA WA bl wl bc wc _ HWd.out (HBR.out _ HB4.out) (HWR.out _ HB4.out) HXW.out hbl hwl).mono ?_
  rintro e w5 ⟨rfl, hb5⟩
  have h5 := H4.out.below hb5 H4.out.lt
  obtain ⟨p0, p1, p2, p3, p4, p5, p6, p7, p8, p9, p10, p11⟩ := cells12 h5
  have hy5 : w3.heap.size < w5.heap.size := h5.lt
  have HB35 := Lib.hid (HK3.out.trans (hb5.mono HK3.out.size))
  have HB5 := Lib.hid (HB4.out.trans (hb5.mono HB4.out.size))
  clear h5 hb5
  go_wp2_with fail
  refine (ltells_any f2 a2 m y2 b2 o2 bs2 ws2 r2 m2 c2 j2 B2 W2 bs2.length ws2.length bd wd _ ⟨HWd2.out.a0, HWd2.out.a1, m0, m1, HWd2.out.v0, HWd2.out.v1, HWd2.out.x0, HWd2.out.x1, HWd2.out.o0, HWd2.out.o1, HWd2.out.r0, HWd2.out.r1, HWd2.out.m0, HWd2.out.m1, HWd2.out.c0, HWd2.out.c1, HWd2.out.b0, HWd2.out.b1⟩ (((own_row HOb2.out).bools.below HB35.out).more HB35.out.size) (((own_row HOw2.out).ints.below HB35.out).more HB35.out.size) HWs2.out (by omega) (by omega)).mono ?_
  rintro e w6 ⟨rfl, hb6⟩
  have HB6 := Lib.hid (HB5.out.trans (hb6.mono HB5.out.size))
  clear hb6
  go_wp2
  go_ret
  exact ⟨rfl, HB6.out⟩

set_option maxRecDepth 100000 in
set_option maxHeartbeats 1000000 in
theorem atells_2 (fn at_ n y an orr : Int) (bs : List Bool) (ws : List Int) (ra rn co ob : Int) (BA WA : Option Addr) (bl wl bc wc : Nat) (k v x m : Int) (w : World) (hwd : Wide at_ n y an orr ra rn co ob) (hbr : BRow w w.heap.size BA bl bs) (hwr : Row .u16 w w.heap.size WA wl ws) (hxw : Words ws) (k0 : -9223372036854775808 ≤ k) (k1 : k ≤ 9223372036854775807) (v0 : -9223372036854775808 ≤ v) (v1 : v ≤ 9223372036854775807) (x0 : -9223372036854775808 ≤ x) (x1 : x ≤ 9223372036854775807) (m0 : -9223372036854775808 ≤ m) (m1 : m ≤ 9223372036854775807) (hf : bl ≤ 2100 ∧ wl ≤ 200) (hi : x % 10 = 2) :
    Calls Try.prog 3 #[.agg #[.int .i64 fn, .int .i64 at_, .int .i64 n, .int .u16 y, .int .u16 an, .int .u16 orr, .slice BA bl bc, .slice WA wl wc, .int .i64 ra, .int .i64 rn, .int .i64 co, .int .i64 ob], .int .i64 k, .int .i64 v, .int .i64 x, .int .i64 m] w fun e w' => e = .returned (.bool true) ∧ Below w.heap.size w w' := by
  have HF := Lib.hid (decide_eq_true hf)
  have hbl : bl ≤ 3000 := by omega
  have hwl : wl ≤ 3000 := by omega
  have HI := Lib.hid hi
  have HWd := Lib.hid hwd
  have HXW := Lib.hid hxw
  have HBR : Hid (∀ X, Below w.heap.size w X → BRow X X.heap.size BA bl bs) := fun X hX => (hbr.below hX).more hX.size
  have HWR : Hid (∀ X, Below w.heap.size w X → Row .u16 X X.heap.size WA wl ws) := fun X hX => (hwr.below hX).more hX.size
  clear hf hi hwd hbr hwr hxw
  obtain ⟨z, hz⟩ : ∃ z, IntKind.u16.wrap m = z := ⟨_, rfl⟩
  have hzz := IntKind.wrap_u16 m
  have z0 : 0 ≤ z := by omega
  have z1 : z ≤ 65535 := by omega
  clear hzz
  go_enter Try.func3, Try.ntmps3
  go_wp2_with (first
    | (go_at_call 16
       refine (few_lit fn at_ n y an orr ra rn co ob BA WA bl wl bc wc _ true HF.out).mono ?_
       rintro e w1 ⟨rfl, hb1⟩
       have hk1 : Below (w.heap.size + 1) (w.alloc (.cells #[.int .i64 fn, .int .i64 at_, .int .i64 n, .int .u16 y, .int .u16 an, .int .u16 orr, .slice BA bl bc, .slice WA wl wc, .int .i64 ra, .int .i64 rn, .int .i64 co, .int .i64 ob] 26)) w1 := by
         rwa [show (w.alloc (.cells #[.int .i64 fn, .int .i64 at_, .int .i64 n, .int .u16 y, .int .u16 an, .int .u16 orr, .slice BA bl bc, .slice WA wl wc, .int .i64 ra, .int .i64 rn, .int .i64 co, .int .i64 ob] 26)).heap.size = w.heap.size + 1 by simp] at hb1
       have HA1 := Lib.hid (wbox12 _ _ _ _ _ _ _ _ _ _ _ _ _ w w1 hk1)
       have HB1 : Hid (Below w.heap.size w w1) := ((Below.refl _ _).alloc (Nat.le_refl _) _).trans (hb1.mono (by simp))
       clear hb1 hk1)
    | (go_at_call 17
       refine (awake_any _).mono ?_
       rintro e w2 ⟨rfl, hb2⟩
       have HB2 := Lib.hid (HB1.out.trans (hb2.mono HB1.out.size))
       have HA2 := Lib.hid (HA1.out.below hb2 HA1.out.lt)
       clear hb2)
    | (go_at_call 18
       refine (lask_any k v _ k0 k1 v0 v1).mono ?_
       rintro e w3 ⟨f2, a2, n2, y2, b2, o2, bl2, wl2, r2, m2, c2, j2, B2, W2, bd, wd, bs2, ws2, rfl, hrt2, hwd2, hws2, hob2, how2, hb3⟩
       obtain rfl : bs2.length = bl2 := (own_row hob2).bools.1
       obtain rfl : ws2.length = wl2 := (own_row how2).ints.1
       have s2 := small_of hrt2
       have s3 : bs2.length ≤ 2000 := s2.1
       have s4 : ws2.length ≤ 2000 := s2.2
       have ha3 := HA2.out.below hb3 HA2.out.lt
       have hy3 : w.heap.size < w3.heap.size := ha3.lt
       obtain ⟨hq0, hq1, hq2, hq3, hq4, hq5, hq6, hq7, hq8, hq9, hq10, hq11⟩ := cells12 ha3
       have HA3 := Lib.hid ha3
       have HB3 := Lib.hid (HB2.out.trans (hb3.mono HB2.out.size))
       have HB23 := Lib.hid hb3
       have HRt2 := Lib.hid hrt2
       have HWd2 := Lib.hid hwd2
       have HWs2 := Lib.hid hws2
       have HOb2 := Lib.hid hob2
       have HOw2 := Lib.hid how2
       clear hrt2 hwd2 hws2 hob2 how2 hb3 s2 ha3)
    | (go_at_call 19; (with_reducible refine (within_any x 10 _ x0 x1 (by omega) (by omega)).mono ?_); rintro e w' ⟨rfl, rfl⟩; rw [HI.out]))
  have hk3 : Below w3.heap.size w3 (w3.alloc (.cells #[.int .i64 f2, .int .i64 a2, .int .i64 n2, .int .u16 z, .int .u16 b2, .int .u16 o2, .slice B2 bs2.length bd, .slice W2 ws2.length wd, .int .i64 r2, .int .i64 m2, .int .i64 c2, .int .i64 j2] 26)) := (Below.refl _ _).alloc (Nat.le_refl _) _
  have HK3 := Lib.hid hk3
  have HB4 : Hid (Below w.heap.size w (w3.alloc (.cells #[.int .i64 f2, .int .i64 a2, .int .i64 n2, .int .u16 z, .int .u16 b2, .int .u16 o2, .slice B2 bs2.length bd, .slice W2 ws2.length wd, .int .i64 r2, .int .i64 m2, .int .i64 c2, .int .i64 j2] 26))) := HB3.out.trans (hk3.mono HB3.out.size)
  have h4 : WholeV (w3.alloc (.cells #[.int .i64 f2, .int .i64 a2, .int .i64 n2, .int .u16 z, .int .u16 b2, .int .u16 o2, .slice B2 bs2.length bd, .slice W2 ws2.length wd, .int .i64 r2, .int .i64 m2, .int .i64 c2, .int .i64 j2] 26)) w3.heap.size 26 [.int .i64 f2, .int .i64 a2, .int .i64 n2, .int .u16 z, .int .u16 b2, .int .u16 o2, .slice B2 bs2.length bd, .slice W2 ws2.length wd, .int .i64 r2, .int .i64 m2, .int .i64 c2, .int .i64 j2] := heap_alloc_new w3 _
  have H4 := Lib.hid h4
  clear hk3 h4
  refine (ltells_any fn at_ n y an orr bs ws ra rn co ob BA WA bl wl bc wc _ HWd.out (HBR.out _ HB4.out) (HWR.out _ HB4.out) HXW.out hbl hwl).mono ?_
  rintro e w5 ⟨rfl, hb5⟩
  have h5 := H4.out.below hb5 H4.out.lt
  obtain ⟨p0, p1, p2, p3, p4, p5, p6, p7, p8, p9, p10, p11⟩ := cells12 h5
  have hy5 : w3.heap.size < w5.heap.size := h5.lt
  have HB35 := Lib.hid (HK3.out.trans (hb5.mono HK3.out.size))
  have HB5 := Lib.hid (HB4.out.trans (hb5.mono HB4.out.size))
  clear h5 hb5
  go_wp2_with fail
  refine (ltells_any f2 a2 n2 z b2 o2 bs2 ws2 r2 m2 c2 j2 B2 W2 bs2.length ws2.length bd wd _ ⟨HWd2.out.a0, HWd2.out.a1, HWd2.out.n0, HWd2.out.n1, z0, z1, HWd2.out.x0, HWd2.out.x1, HWd2.out.o0, HWd2.out.o1, HWd2.out.r0, HWd2.out.r1, HWd2.out.m0, HWd2.out.m1, HWd2.out.c0, HWd2.out.c1, HWd2.out.b0, HWd2.out.b1⟩ (((own_row HOb2.out).bools.below HB35.out).more HB35.out.size) (((own_row HOw2.out).ints.below HB35.out).more HB35.out.size) HWs2.out (by omega) (by omega)).mono ?_
  rintro e w6 ⟨rfl, hb6⟩
  have HB6 := Lib.hid (HB5.out.trans (hb6.mono HB5.out.size))
  clear hb6
  go_wp2
  go_ret
  exact ⟨rfl, HB6.out⟩

set_option maxRecDepth 100000 in
set_option maxHeartbeats 1000000 in
theorem atells_3 (fn at_ n y an orr : Int) (bs : List Bool) (ws : List Int) (ra rn co ob : Int) (BA WA : Option Addr) (bl wl bc wc : Nat) (k v x m : Int) (w : World) (hwd : Wide at_ n y an orr ra rn co ob) (hbr : BRow w w.heap.size BA bl bs) (hwr : Row .u16 w w.heap.size WA wl ws) (hxw : Words ws) (k0 : -9223372036854775808 ≤ k) (k1 : k ≤ 9223372036854775807) (v0 : -9223372036854775808 ≤ v) (v1 : v ≤ 9223372036854775807) (x0 : -9223372036854775808 ≤ x) (x1 : x ≤ 9223372036854775807) (m0 : -9223372036854775808 ≤ m) (m1 : m ≤ 9223372036854775807) (hf : bl ≤ 2100 ∧ wl ≤ 200) (hi : x % 10 = 3) :
    Calls Try.prog 3 #[.agg #[.int .i64 fn, .int .i64 at_, .int .i64 n, .int .u16 y, .int .u16 an, .int .u16 orr, .slice BA bl bc, .slice WA wl wc, .int .i64 ra, .int .i64 rn, .int .i64 co, .int .i64 ob], .int .i64 k, .int .i64 v, .int .i64 x, .int .i64 m] w fun e w' => e = .returned (.bool true) ∧ Below w.heap.size w w' := by
  have HF := Lib.hid (decide_eq_true hf)
  have hbl : bl ≤ 3000 := by omega
  have hwl : wl ≤ 3000 := by omega
  have HI := Lib.hid hi
  have HWd := Lib.hid hwd
  have HXW := Lib.hid hxw
  have HBR : Hid (∀ X, Below w.heap.size w X → BRow X X.heap.size BA bl bs) := fun X hX => (hbr.below hX).more hX.size
  have HWR : Hid (∀ X, Below w.heap.size w X → Row .u16 X X.heap.size WA wl ws) := fun X hX => (hwr.below hX).more hX.size
  clear hf hi hwd hbr hwr hxw
  obtain ⟨z, hz⟩ : ∃ z, IntKind.u16.wrap m = z := ⟨_, rfl⟩
  have hzz := IntKind.wrap_u16 m
  have z0 : 0 ≤ z := by omega
  have z1 : z ≤ 65535 := by omega
  clear hzz
  go_enter Try.func3, Try.ntmps3
  go_wp2_with (first
    | (go_at_call 16
       refine (few_lit fn at_ n y an orr ra rn co ob BA WA bl wl bc wc _ true HF.out).mono ?_
       rintro e w1 ⟨rfl, hb1⟩
       have hk1 : Below (w.heap.size + 1) (w.alloc (.cells #[.int .i64 fn, .int .i64 at_, .int .i64 n, .int .u16 y, .int .u16 an, .int .u16 orr, .slice BA bl bc, .slice WA wl wc, .int .i64 ra, .int .i64 rn, .int .i64 co, .int .i64 ob] 26)) w1 := by
         rwa [show (w.alloc (.cells #[.int .i64 fn, .int .i64 at_, .int .i64 n, .int .u16 y, .int .u16 an, .int .u16 orr, .slice BA bl bc, .slice WA wl wc, .int .i64 ra, .int .i64 rn, .int .i64 co, .int .i64 ob] 26)).heap.size = w.heap.size + 1 by simp] at hb1
       have HA1 := Lib.hid (wbox12 _ _ _ _ _ _ _ _ _ _ _ _ _ w w1 hk1)
       have HB1 : Hid (Below w.heap.size w w1) := ((Below.refl _ _).alloc (Nat.le_refl _) _).trans (hb1.mono (by simp))
       clear hb1 hk1)
    | (go_at_call 17
       refine (awake_any _).mono ?_
       rintro e w2 ⟨rfl, hb2⟩
       have HB2 := Lib.hid (HB1.out.trans (hb2.mono HB1.out.size))
       have HA2 := Lib.hid (HA1.out.below hb2 HA1.out.lt)
       clear hb2)
    | (go_at_call 18
       refine (lask_any k v _ k0 k1 v0 v1).mono ?_
       rintro e w3 ⟨f2, a2, n2, y2, b2, o2, bl2, wl2, r2, m2, c2, j2, B2, W2, bd, wd, bs2, ws2, rfl, hrt2, hwd2, hws2, hob2, how2, hb3⟩
       obtain rfl : bs2.length = bl2 := (own_row hob2).bools.1
       obtain rfl : ws2.length = wl2 := (own_row how2).ints.1
       have s2 := small_of hrt2
       have s3 : bs2.length ≤ 2000 := s2.1
       have s4 : ws2.length ≤ 2000 := s2.2
       have ha3 := HA2.out.below hb3 HA2.out.lt
       have hy3 : w.heap.size < w3.heap.size := ha3.lt
       obtain ⟨hq0, hq1, hq2, hq3, hq4, hq5, hq6, hq7, hq8, hq9, hq10, hq11⟩ := cells12 ha3
       have HA3 := Lib.hid ha3
       have HB3 := Lib.hid (HB2.out.trans (hb3.mono HB2.out.size))
       have HB23 := Lib.hid hb3
       have HRt2 := Lib.hid hrt2
       have HWd2 := Lib.hid hwd2
       have HWs2 := Lib.hid hws2
       have HOb2 := Lib.hid hob2
       have HOw2 := Lib.hid how2
       clear hrt2 hwd2 hws2 hob2 how2 hb3 s2 ha3)
    | (go_at_call 19; (with_reducible refine (within_any x 10 _ x0 x1 (by omega) (by omega)).mono ?_); rintro e w' ⟨rfl, rfl⟩; rw [HI.out]))
  have hk3 : Below w3.heap.size w3 (w3.alloc (.cells #[.int .i64 f2, .int .i64 a2, .int .i64 n2, .int .u16 y2, .int .u16 z, .int .u16 o2, .slice B2 bs2.length bd, .slice W2 ws2.length wd, .int .i64 r2, .int .i64 m2, .int .i64 c2, .int .i64 j2] 26)) := (Below.refl _ _).alloc (Nat.le_refl _) _
  have HK3 := Lib.hid hk3
  have HB4 : Hid (Below w.heap.size w (w3.alloc (.cells #[.int .i64 f2, .int .i64 a2, .int .i64 n2, .int .u16 y2, .int .u16 z, .int .u16 o2, .slice B2 bs2.length bd, .slice W2 ws2.length wd, .int .i64 r2, .int .i64 m2, .int .i64 c2, .int .i64 j2] 26))) := HB3.out.trans (hk3.mono HB3.out.size)
  have h4 : WholeV (w3.alloc (.cells #[.int .i64 f2, .int .i64 a2, .int .i64 n2, .int .u16 y2, .int .u16 z, .int .u16 o2, .slice B2 bs2.length bd, .slice W2 ws2.length wd, .int .i64 r2, .int .i64 m2, .int .i64 c2, .int .i64 j2] 26)) w3.heap.size 26 [.int .i64 f2, .int .i64 a2, .int .i64 n2, .int .u16 y2, .int .u16 z, .int .u16 o2, .slice B2 bs2.length bd, .slice W2 ws2.length wd, .int .i64 r2, .int .i64 m2, .int .i64 c2, .int .i64 j2] := heap_alloc_new w3 _
  have H4 := Lib.hid h4
  clear hk3 h4
  refine (ltells_any fn at_ n y an orr bs ws ra rn co ob BA WA bl wl bc wc _ HWd.out (HBR.out _ HB4.out) (HWR.out _ HB4.out) HXW.out hbl hwl).mono ?_
  rintro e w5 ⟨rfl, hb5⟩
  have h5 := H4.out.below hb5 H4.out.lt
  obtain ⟨p0, p1, p2, p3, p4, p5, p6, p7, p8, p9, p10, p11⟩ := cells12 h5
  have hy5 : w3.heap.size < w5.heap.size := h5.lt
  have HB35 := Lib.hid (HK3.out.trans (hb5.mono HK3.out.size))
  have HB5 := Lib.hid (HB4.out.trans (hb5.mono HB4.out.size))
  clear h5 hb5
  go_wp2_with fail
  refine (ltells_any f2 a2 n2 y2 z o2 bs2 ws2 r2 m2 c2 j2 B2 W2 bs2.length ws2.length bd wd _ ⟨HWd2.out.a0, HWd2.out.a1, HWd2.out.n0, HWd2.out.n1, HWd2.out.v0, HWd2.out.v1, z0, z1, HWd2.out.o0, HWd2.out.o1, HWd2.out.r0, HWd2.out.r1, HWd2.out.m0, HWd2.out.m1, HWd2.out.c0, HWd2.out.c1, HWd2.out.b0, HWd2.out.b1⟩ (((own_row HOb2.out).bools.below HB35.out).more HB35.out.size) (((own_row HOw2.out).ints.below HB35.out).more HB35.out.size) HWs2.out (by omega) (by omega)).mono ?_
  rintro e w6 ⟨rfl, hb6⟩
  have HB6 := Lib.hid (HB5.out.trans (hb6.mono HB5.out.size))
  clear hb6
  go_wp2
  go_ret
  exact ⟨rfl, HB6.out⟩

set_option maxRecDepth 100000 in
set_option maxHeartbeats 1000000 in
theorem atells_4 (fn at_ n y an orr : Int) (bs : List Bool) (ws : List Int) (ra rn co ob : Int) (BA WA : Option Addr) (bl wl bc wc : Nat) (k v x m : Int) (w : World) (hwd : Wide at_ n y an orr ra rn co ob) (hbr : BRow w w.heap.size BA bl bs) (hwr : Row .u16 w w.heap.size WA wl ws) (hxw : Words ws) (k0 : -9223372036854775808 ≤ k) (k1 : k ≤ 9223372036854775807) (v0 : -9223372036854775808 ≤ v) (v1 : v ≤ 9223372036854775807) (x0 : -9223372036854775808 ≤ x) (x1 : x ≤ 9223372036854775807) (m0 : -9223372036854775808 ≤ m) (m1 : m ≤ 9223372036854775807) (hf : bl ≤ 2100 ∧ wl ≤ 200) (hi : x % 10 = 4) :
    Calls Try.prog 3 #[.agg #[.int .i64 fn, .int .i64 at_, .int .i64 n, .int .u16 y, .int .u16 an, .int .u16 orr, .slice BA bl bc, .slice WA wl wc, .int .i64 ra, .int .i64 rn, .int .i64 co, .int .i64 ob], .int .i64 k, .int .i64 v, .int .i64 x, .int .i64 m] w fun e w' => e = .returned (.bool true) ∧ Below w.heap.size w w' := by
  have HF := Lib.hid (decide_eq_true hf)
  have hbl : bl ≤ 3000 := by omega
  have hwl : wl ≤ 3000 := by omega
  have HI := Lib.hid hi
  have HWd := Lib.hid hwd
  have HXW := Lib.hid hxw
  have HBR : Hid (∀ X, Below w.heap.size w X → BRow X X.heap.size BA bl bs) := fun X hX => (hbr.below hX).more hX.size
  have HWR : Hid (∀ X, Below w.heap.size w X → Row .u16 X X.heap.size WA wl ws) := fun X hX => (hwr.below hX).more hX.size
  clear hf hi hwd hbr hwr hxw
  obtain ⟨z, hz⟩ : ∃ z, IntKind.u16.wrap m = z := ⟨_, rfl⟩
  have hzz := IntKind.wrap_u16 m
  have z0 : 0 ≤ z := by omega
  have z1 : z ≤ 65535 := by omega
  clear hzz
  go_enter Try.func3, Try.ntmps3
  go_wp2_with (first
    | (go_at_call 16
       refine (few_lit fn at_ n y an orr ra rn co ob BA WA bl wl bc wc _ true HF.out).mono ?_
       rintro e w1 ⟨rfl, hb1⟩
       have hk1 : Below (w.heap.size + 1) (w.alloc (.cells #[.int .i64 fn, .int .i64 at_, .int .i64 n, .int .u16 y, .int .u16 an, .int .u16 orr, .slice BA bl bc, .slice WA wl wc, .int .i64 ra, .int .i64 rn, .int .i64 co, .int .i64 ob] 26)) w1 := by
         rwa [show (w.alloc (.cells #[.int .i64 fn, .int .i64 at_, .int .i64 n, .int .u16 y, .int .u16 an, .int .u16 orr, .slice BA bl bc, .slice WA wl wc, .int .i64 ra, .int .i64 rn, .int .i64 co, .int .i64 ob] 26)).heap.size = w.heap.size + 1 by simp] at hb1
       have HA1 := Lib.hid (wbox12 _ _ _ _ _ _ _ _ _ _ _ _ _ w w1 hk1)
       have HB1 : Hid (Below w.heap.size w w1) := ((Below.refl _ _).alloc (Nat.le_refl _) _).trans (hb1.mono (by simp))
       clear hb1 hk1)
    | (go_at_call 17
       refine (awake_any _).mono ?_
       rintro e w2 ⟨rfl, hb2⟩
       have HB2 := Lib.hid (HB1.out.trans (hb2.mono HB1.out.size))
       have HA2 := Lib.hid (HA1.out.below hb2 HA1.out.lt)
       clear hb2)
    | (go_at_call 18
       refine (lask_any k v _ k0 k1 v0 v1).mono ?_
       rintro e w3 ⟨f2, a2, n2, y2, b2, o2, bl2, wl2, r2, m2, c2, j2, B2, W2, bd, wd, bs2, ws2, rfl, hrt2, hwd2, hws2, hob2, how2, hb3⟩
       obtain rfl : bs2.length = bl2 := (own_row hob2).bools.1
       obtain rfl : ws2.length = wl2 := (own_row how2).ints.1
       have s2 := small_of hrt2
       have s3 : bs2.length ≤ 2000 := s2.1
       have s4 : ws2.length ≤ 2000 := s2.2
       have ha3 := HA2.out.below hb3 HA2.out.lt
       have hy3 : w.heap.size < w3.heap.size := ha3.lt
       obtain ⟨hq0, hq1, hq2, hq3, hq4, hq5, hq6, hq7, hq8, hq9, hq10, hq11⟩ := cells12 ha3
       have HA3 := Lib.hid ha3
       have HB3 := Lib.hid (HB2.out.trans (hb3.mono HB2.out.size))
       have HB23 := Lib.hid hb3
       have HRt2 := Lib.hid hrt2
       have HWd2 := Lib.hid hwd2
       have HWs2 := Lib.hid hws2
       have HOb2 := Lib.hid hob2
       have HOw2 := Lib.hid how2
       clear hrt2 hwd2 hws2 hob2 how2 hb3 s2 ha3)
    | (go_at_call 19; (with_reducible refine (within_any x 10 _ x0 x1 (by omega) (by omega)).mono ?_); rintro e w' ⟨rfl, rfl⟩; rw [HI.out]))
  have hk3 : Below w3.heap.size w3 (w3.alloc (.cells #[.int .i64 f2, .int .i64 a2, .int .i64 n2, .int .u16 y2, .int .u16 b2, .int .u16 z, .slice B2 bs2.length bd, .slice W2 ws2.length wd, .int .i64 r2, .int .i64 m2, .int .i64 c2, .int .i64 j2] 26)) := (Below.refl _ _).alloc (Nat.le_refl _) _
  have HK3 := Lib.hid hk3
  have HB4 : Hid (Below w.heap.size w (w3.alloc (.cells #[.int .i64 f2, .int .i64 a2, .int .i64 n2, .int .u16 y2, .int .u16 b2, .int .u16 z, .slice B2 bs2.length bd, .slice W2 ws2.length wd, .int .i64 r2, .int .i64 m2, .int .i64 c2, .int .i64 j2] 26))) := HB3.out.trans (hk3.mono HB3.out.size)
  have h4 : WholeV (w3.alloc (.cells #[.int .i64 f2, .int .i64 a2, .int .i64 n2, .int .u16 y2, .int .u16 b2, .int .u16 z, .slice B2 bs2.length bd, .slice W2 ws2.length wd, .int .i64 r2, .int .i64 m2, .int .i64 c2, .int .i64 j2] 26)) w3.heap.size 26 [.int .i64 f2, .int .i64 a2, .int .i64 n2, .int .u16 y2, .int .u16 b2, .int .u16 z, .slice B2 bs2.length bd, .slice W2 ws2.length wd, .int .i64 r2, .int .i64 m2, .int .i64 c2, .int .i64 j2] := heap_alloc_new w3 _
  have H4 := Lib.hid h4
  clear hk3 h4
  refine (ltells_any fn at_ n y an orr bs ws ra rn co ob BA WA bl wl bc wc _ HWd.out (HBR.out _ HB4.out) (HWR.out _ HB4.out) HXW.out hbl hwl).mono ?_
  rintro e w5 ⟨rfl, hb5⟩
  have h5 := H4.out.below hb5 H4.out.lt
  obtain ⟨p0, p1, p2, p3, p4, p5, p6, p7, p8, p9, p10, p11⟩ := cells12 h5
  have hy5 : w3.heap.size < w5.heap.size := h5.lt
  have HB35 := Lib.hid (HK3.out.trans (hb5.mono HK3.out.size))
  have HB5 := Lib.hid (HB4.out.trans (hb5.mono HB4.out.size))
  clear h5 hb5
  go_wp2_with fail
  refine (ltells_any f2 a2 n2 y2 b2 z bs2 ws2 r2 m2 c2 j2 B2 W2 bs2.length ws2.length bd wd _ ⟨HWd2.out.a0, HWd2.out.a1, HWd2.out.n0, HWd2.out.n1, HWd2.out.v0, HWd2.out.v1, HWd2.out.x0, HWd2.out.x1, z0, z1, HWd2.out.r0, HWd2.out.r1, HWd2.out.m0, HWd2.out.m1, HWd2.out.c0, HWd2.out.c1, HWd2.out.b0, HWd2.out.b1⟩ (((own_row HOb2.out).bools.below HB35.out).more HB35.out.size) (((own_row HOw2.out).ints.below HB35.out).more HB35.out.size) HWs2.out (by omega) (by omega)).mono ?_
  rintro e w6 ⟨rfl, hb6⟩
  have HB6 := Lib.hid (HB5.out.trans (hb6.mono HB5.out.size))
  clear hb6
  go_wp2
  go_ret
  exact ⟨rfl, HB6.out⟩

set_option maxRecDepth 100000 in
set_option maxHeartbeats 1000000 in
theorem atells_5 (fn at_ n y an orr : Int) (bs : List Bool) (ws : List Int) (ra rn co ob : Int) (BA WA : Option Addr) (bl wl bc wc : Nat) (k v x m : Int) (w : World) (hwd : Wide at_ n y an orr ra rn co ob) (hbr : BRow w w.heap.size BA bl bs) (hwr : Row .u16 w w.heap.size WA wl ws) (hxw : Words ws) (k0 : -9223372036854775808 ≤ k) (k1 : k ≤ 9223372036854775807) (v0 : -9223372036854775808 ≤ v) (v1 : v ≤ 9223372036854775807) (x0 : -9223372036854775808 ≤ x) (x1 : x ≤ 9223372036854775807) (m0 : -9223372036854775808 ≤ m) (m1 : m ≤ 9223372036854775807) (hf : bl ≤ 2100 ∧ wl ≤ 200) (hi : x % 10 = 5) :
    Calls Try.prog 3 #[.agg #[.int .i64 fn, .int .i64 at_, .int .i64 n, .int .u16 y, .int .u16 an, .int .u16 orr, .slice BA bl bc, .slice WA wl wc, .int .i64 ra, .int .i64 rn, .int .i64 co, .int .i64 ob], .int .i64 k, .int .i64 v, .int .i64 x, .int .i64 m] w fun e w' => e = .returned (.bool true) ∧ Below w.heap.size w w' := by
  have HF := Lib.hid (decide_eq_true hf)
  have hbl : bl ≤ 3000 := by omega
  have hwl : wl ≤ 3000 := by omega
  have HI := Lib.hid hi
  have HWd := Lib.hid hwd
  have HXW := Lib.hid hxw
  have HBR : Hid (∀ X, Below w.heap.size w X → BRow X X.heap.size BA bl bs) := fun X hX => (hbr.below hX).more hX.size
  have HWR : Hid (∀ X, Below w.heap.size w X → Row .u16 X X.heap.size WA wl ws) := fun X hX => (hwr.below hX).more hX.size
  clear hf hi hwd hbr hwr hxw
  go_enter Try.func3, Try.ntmps3
  go_wp2_with (first
    | (go_at_call 16
       refine (few_lit fn at_ n y an orr ra rn co ob BA WA bl wl bc wc _ true HF.out).mono ?_
       rintro e w1 ⟨rfl, hb1⟩
       have hk1 : Below (w.heap.size + 1) (w.alloc (.cells #[.int .i64 fn, .int .i64 at_, .int .i64 n, .int .u16 y, .int .u16 an, .int .u16 orr, .slice BA bl bc, .slice WA wl wc, .int .i64 ra, .int .i64 rn, .int .i64 co, .int .i64 ob] 26)) w1 := by
         rwa [show (w.alloc (.cells #[.int .i64 fn, .int .i64 at_, .int .i64 n, .int .u16 y, .int .u16 an, .int .u16 orr, .slice BA bl bc, .slice WA wl wc, .int .i64 ra, .int .i64 rn, .int .i64 co, .int .i64 ob] 26)).heap.size = w.heap.size + 1 by simp] at hb1
       have HA1 := Lib.hid (wbox12 _ _ _ _ _ _ _ _ _ _ _ _ _ w w1 hk1)
       have HB1 : Hid (Below w.heap.size w w1) := ((Below.refl _ _).alloc (Nat.le_refl _) _).trans (hb1.mono (by simp))
       clear hb1 hk1)
    | (go_at_call 17
       refine (awake_any _).mono ?_
       rintro e w2 ⟨rfl, hb2⟩
       have HB2 := Lib.hid (HB1.out.trans (hb2.mono HB1.out.size))
       have HA2 := Lib.hid (HA1.out.below hb2 HA1.out.lt)
       clear hb2)
    | (go_at_call 18
       refine (lask_any k v _ k0 k1 v0 v1).mono ?_
       rintro e w3 ⟨f2, a2, n2, y2, b2, o2, bl2, wl2, r2, m2, c2, j2, B2, W2, bd, wd, bs2, ws2, rfl, hrt2, hwd2, hws2, hob2, how2, hb3⟩
       obtain rfl : bs2.length = bl2 := (own_row hob2).bools.1
       obtain rfl : ws2.length = wl2 := (own_row how2).ints.1
       have s2 := small_of hrt2
       have s3 : bs2.length ≤ 2000 := s2.1
       have s4 : ws2.length ≤ 2000 := s2.2
       have ha3 := HA2.out.below hb3 HA2.out.lt
       have hy3 : w.heap.size < w3.heap.size := ha3.lt
       obtain ⟨hq0, hq1, hq2, hq3, hq4, hq5, hq6, hq7, hq8, hq9, hq10, hq11⟩ := cells12 ha3
       have HA3 := Lib.hid ha3
       have HB3 := Lib.hid (HB2.out.trans (hb3.mono HB2.out.size))
       have HB23 := Lib.hid hb3
       have HRt2 := Lib.hid hrt2
       have HWd2 := Lib.hid hwd2
       have HWs2 := Lib.hid hws2
       have HOb2 := Lib.hid hob2
       have HOw2 := Lib.hid how2
       clear hrt2 hwd2 hws2 hob2 how2 hb3 s2 ha3)
    | (go_at_call 19; (with_reducible refine (within_any x 10 _ x0 x1 (by omega) (by omega)).mono ?_); rintro e w' ⟨rfl, rfl⟩; rw [HI.out])
    | (at_builtin
       have hkW : Below w3.heap.size w3 ((w3.alloc (.cells #[.int .i64 f2, .int .i64 a2, .int .i64 n2, .int .u16 y2, .int .u16 b2, .int .u16 o2, .slice B2 bs2.length bd, .slice W2 ws2.length wd, .int .i64 r2, .int .i64 m2, .int .i64 c2, .int .i64 j2] 26)).alloc (.cells #[.bool (m.tmod 2 == 0)] 4)) := ((Below.refl _ _).alloc (Nat.le_refl _) _).alloc (by simp) _
       have hoW := own_keep HOb2.out hkW
       have hoO := own_keep HOw2.out hkW
       have hrw : RowV ((w3.alloc (.cells #[.int .i64 f2, .int .i64 a2, .int .i64 n2, .int .u16 y2, .int .u16 b2, .int .u16 o2, .slice B2 bs2.length bd, .slice W2 ws2.length wd, .int .i64 r2, .int .i64 m2, .int .i64 c2, .int .i64 j2] 26)).alloc (.cells #[.bool (m.tmod 2 == 0)] 4)) ((w3.alloc (.cells #[.int .i64 f2, .int .i64 a2, .int .i64 n2, .int .u16 y2, .int .u16 b2, .int .u16 o2, .slice B2 bs2.length bd, .slice W2 ws2.length wd, .int .i64 r2, .int .i64 m2, .int .i64 c2, .int .i64 j2] 26)).alloc (.cells #[.bool (m.tmod 2 == 0)] 4)).heap.size (some ⟨w3.heap.size + 1, 0, none⟩) 1 ([m.tmod 2 == 0].map Value.bool) := by
         have h := built_row (w3.alloc (.cells #[.int .i64 f2, .int .i64 a2, .int .i64 n2, .int .u16 y2, .int .u16 b2, .int .u16 o2, .slice B2 bs2.length bd, .slice W2 ws2.length wd, .int .i64 r2, .int .i64 m2, .int .i64 c2, .int .i64 j2] 26)) ((w3.alloc (.cells #[.int .i64 f2, .int .i64 a2, .int .i64 n2, .int .u16 y2, .int .u16 b2, .int .u16 o2, .slice B2 bs2.length bd, .slice W2 ws2.length wd, .int .i64 r2, .int .i64 m2, .int .i64 c2, .int .i64 j2] 26)).alloc (.cells #[.bool (m.tmod 2 == 0)] 4)) ([m.tmod 2 == 0].map Value.bool) 4 (Below.refl _ _)
         rw [show (w3.alloc (.cells #[.int .i64 f2, .int .i64 a2, .int .i64 n2, .int .u16 y2, .int .u16 b2, .int .u16 o2, .slice B2 bs2.length bd, .slice W2 ws2.length wd, .int .i64 r2, .int .i64 m2, .int .i64 c2, .int .i64 j2] 26)).heap.size = w3.heap.size + 1 by simp] at h
         exact h
       have hbxW : WholeV ((w3.alloc (.cells #[.int .i64 f2, .int .i64 a2, .int .i64 n2, .int .u16 y2, .int .u16 b2, .int .u16 o2, .slice B2 bs2.length bd, .slice W2 ws2.length wd, .int .i64 r2, .int .i64 m2, .int .i64 c2, .int .i64 j2] 26)).alloc (.cells #[.bool (m.tmod 2 == 0)] 4)) w3.heap.size 26 [.int .i64 f2, .int .i64 a2, .int .i64 n2, .int .u16 y2, .int .u16 b2, .int .u16 o2, .slice B2 bs2.length bd, .slice W2 ws2.length wd, .int .i64 r2, .int .i64 m2, .int .i64 c2, .int .i64 j2] := by
         have h : WholeV (w3.alloc (.cells #[.int .i64 f2, .int .i64 a2, .int .i64 n2, .int .u16 y2, .int .u16 b2, .int .u16 o2, .slice B2 bs2.length bd, .slice W2 ws2.length wd, .int .i64 r2, .int .i64 m2, .int .i64 c2, .int .i64 j2] 26)) w3.heap.size 26 [.int .i64 f2, .int .i64 a2, .int .i64 n2, .int .u16 y2, .int .u16 b2, .int .u16 o2, .slice B2 bs2.length bd, .slice W2 ws2.length wd, .int .i64 r2, .int .i64 m2, .int .i64 c2, .int .i64 j2] := heap_alloc_new w3 _
         exact h.below ((Below.refl _ _).alloc (Nat.le_refl _) _) (by simp)
       refine wpList_append_row _ (o := ⟨some 56, _, _, _, _, _⟩) rfl (.tmp 51) (.tmp 55) 23 rfl w2.heap.size 4 (.bool false) 1 Try.underlying23 infoBool rfl (.slice B2 bs2.length bd) bs2.length (bs2.map Value.bool) rfl hoW _ (some ⟨w3.heap.size + 1, 0, none⟩) 1 1 ([m.tmod 2 == 0].map Value.bool) rfl hrw (bools_oneCell _) (by omega) (by omega) (Nat.le_trans HB23.out.size hkW.size) ?_
       intro v7 w7 hown7 hg7 hat7
       obtain ⟨B7, c7, rfl⟩ := own_slice hown7
       have hne3 : some w3.heap.size ≠ Value.ownBlock (.slice B2 bs2.length bd) := fun he => absurd (own_lt HOb2.out he.symm) (Nat.lt_irrefl _)
       have HBX7 : Hid (WholeV w7 w3.heap.size 26 [.int .i64 f2, .int .i64 a2, .int .i64 n2, .int .u16 y2, .int .u16 b2, .int .u16 o2, .slice B2 bs2.length bd, .slice W2 ws2.length wd, .int .i64 r2, .int .i64 m2, .int .i64 c2, .int .i64 j2]) := (hg7.block _ hbxW.lt hne3).trans hbxW
       have HB27 : Hid (Below w2.heap.size w2 w7) := below_append (HB23.out.trans (hkW.mono HB23.out.size)) hoW hg7 (Nat.le_trans HB23.out.size hkW.size)
       have HB7 : Hid (Below w.heap.size w w7) := HB2.out.trans (HB27.out.mono HB2.out.size)
       have HA7 := Lib.hid (HA2.out.below HB27.out HA2.out.lt)
       have HO7 : Hid (w7.ownsRow w2.heap.size 4 1 (.slice B7 (bs2.length + 1) c7) (bs2.length + 1) ((bs2 ++ [m.tmod 2 == 0]).map Value.bool)) := by
         rw [List.map_append]
         exact hown7
       have HOo := Lib.hid (own_grown hoW hoO (by decide) hg7)
       have HNE7 : Hid (Value.ownBlock (.slice B7 (bs2.length + 1) c7) ≠ some w3.heap.size) := by
         intro he
         rcases hat7 with h | h
         · rw [he] at h
           exact hne3 h
         · rw [he] at h
           injection h with h
           simp at h
           omega
       have HNEo : Hid (Value.ownBlock (.slice W2 ws2.length wd) ≠ some w3.heap.size) := fun he => absurd (own_lt HOw2.out he) (Nat.lt_irrefl _)
       have HY3 : Hid (w.heap.size < w3.heap.size) := HA3.out.lt
       obtain ⟨bc0, bc1, bc2, bc3, bc4, bc5, bc6, bc7, bc8, bc9, bc10, bc11⟩ := cells12 HBX7.out
       obtain ⟨bf0, bf1, bf2, bf3, bf4, bf5, bf6, bf7, bf8, bf9, bf10, bf11⟩ := frozen12 HBX7.out
       obtain ⟨ac0, ac1, ac2, ac3, ac4, ac5, ac6, ac7, ac8, ac9, ac10, ac11⟩ := cells12 HA7.out
       have hy7a : w.heap.size < w7.heap.size := HA7.out.lt
       have hy3a : w.heap.size < w3.heap.size := HY3.out
       have hy7 : w3.heap.size < w7.heap.size := HBX7.out.lt
       clear hkW hoW hoO hrw hbxW hown7 hg7 hat7 hne3))
  have hbX : Below w.heap.size w (w7.setCell ⟨w3.heap.size, 6, none⟩ (.slice B7 (bs2.length + 1) c7)) := HB7.out.setCell (p := ⟨w3.heap.size, 6, none⟩) (Nat.le_of_lt HY3.out) _
  have hbxX : WholeV (w7.setCell ⟨w3.heap.size, 6, none⟩ (.slice B7 (bs2.length + 1) c7)) w3.heap.size 26 [.int .i64 f2, .int .i64 a2, .int .i64 n2, .int .u16 y2, .int .u16 b2, .int .u16 o2, .slice B7 (bs2.length + 1) c7, .slice W2 ws2.length wd, .int .i64 r2, .int .i64 m2, .int .i64 c2, .int .i64 j2] := HBX7.out.set 6 _
  have hX7 := own_set HO7.out ⟨w3.heap.size, 6, none⟩ (.slice B7 (bs2.length + 1) c7) HNE7.out
  have hXo := own_set HOo.out ⟨w3.heap.size, 6, none⟩ (.slice B7 (bs2.length + 1) c7) HNEo.out
  have haX : WholeV (w7.setCell ⟨w3.heap.size, 6, none⟩ (.slice B7 (bs2.length + 1) c7)) w.heap.size 26 [.int .i64 fn, .int .i64 at_, .int .i64 n, .int .u16 y, .int .u16 an, .int .u16 orr, .slice BA bl bc, .slice WA wl wc, .int .i64 ra, .int .i64 rn, .int .i64 co, .int .i64 ob] := whole_far HA7.out ⟨w3.heap.size, 6, none⟩ _ (by have := HY3.out; show w3.heap.size ≠ w.heap.size; omega)
  obtain ⟨Y, hY⟩ : ∃ Y, (w7.setCell ⟨w3.heap.size, 6, none⟩ (.slice B7 (bs2.length + 1) c7)) = Y := ⟨_, rfl⟩
  rw [hY] at hbX hbxX hX7 hXo haX
  rw [hY]
  clear hY
  have HBY := Lib.hid hbX
  have HBXY := Lib.hid hbxX
  have HX7 := Lib.hid hX7
  have HXo := Lib.hid hXo
  obtain ⟨p0, p1, p2, p3, p4, p5, p6, p7, p8, p9, p10, p11⟩ := cells12 hbxX
  obtain ⟨qq0, qq1, qq2, qq3, qq4, qq5, qq6, qq7, qq8, qq9, qq10, qq11⟩ := cells12 haX
  have hyY : w3.heap.size < Y.heap.size := hbxX.lt
  have hyZ : w.heap.size < Y.heap.size := haX.lt
  clear hbX hbxX hX7 hXo haX
  refine (ltells_any fn at_ n y an orr bs ws ra rn co ob BA WA bl wl bc wc _ HWd.out (HBR.out _ HBY.out) (HWR.out _ HBY.out) HXW.out hbl hwl).mono ?_
  rintro e w9 ⟨rfl, hb9⟩
  have h9 := HBXY.out.below hb9 HBXY.out.lt
  obtain ⟨r_0, r_1, r_2, r_3, r_4, r_5, r_6, r_7, r_8, r_9, r_10, r_11⟩ := cells12 h9
  have hy9 : w3.heap.size < w9.heap.size := h9.lt
  have HB95 := Lib.hid hb9
  have HB9 := Lib.hid (HBY.out.trans (hb9.mono HBY.out.size))
  clear h9 hb9
  go_wp2_with fail
  refine (ltells_any f2 a2 n2 y2 b2 o2 (bs2 ++ [m.tmod 2 == 0]) ws2 r2 m2 c2 j2 B7 W2 (bs2.length + 1) ws2.length c7 wd _ HWd2.out (((own_row HX7.out).bools.below HB95.out).more HB95.out.size) (((own_row HXo.out).ints.below HB95.out).more HB95.out.size) HWs2.out (by omega) (by omega)).mono ?_
  rintro e w6 ⟨rfl, hb6⟩
  have HB6 := Lib.hid (HB9.out.trans (hb6.mono HB9.out.size))
  clear hb6
  go_wp2
  go_ret
  exact ⟨rfl, HB6.out⟩

set_option maxRecDepth 100000 in
set_option maxHeartbeats 1000000 in
theorem atells_6 (fn at_ n y an orr : Int) (bs : List Bool) (ws : List Int) (ra rn co ob : Int) (BA WA : Option Addr) (bl wl bc wc : Nat) (k v x m : Int) (w : World) (hwd : Wide at_ n y an orr ra rn co ob) (hbr : BRow w w.heap.size BA bl bs) (hwr : Row .u16 w w.heap.size WA wl ws) (hxw : Words ws) (k0 : -9223372036854775808 ≤ k) (k1 : k ≤ 9223372036854775807) (v0 : -9223372036854775808 ≤ v) (v1 : v ≤ 9223372036854775807) (x0 : -9223372036854775808 ≤ x) (x1 : x ≤ 9223372036854775807) (m0 : -9223372036854775808 ≤ m) (m1 : m ≤ 9223372036854775807) (hf : bl ≤ 2100 ∧ wl ≤ 200) (hi : x % 10 = 6) :
    Calls Try.prog 3 #[.agg #[.int .i64 fn, .int .i64 at_, .int .i64 n, .int .u16 y, .int .u16 an, .int .u16 orr, .slice BA bl bc, .slice WA wl wc, .int .i64 ra, .int .i64 rn, .int .i64 co, .int .i64 ob], .int .i64 k, .int .i64 v, .int .i64 x, .int .i64 m] w fun e w' => e = .returned (.bool true) ∧ Below w.heap.size w w' := by
  have HF := Lib.hid (decide_eq_true hf)
  have hbl : bl ≤ 3000 := by omega
  have hwl : wl ≤ 3000 := by omega
  have HI := Lib.hid hi
  have HWd := Lib.hid hwd
  have HXW := Lib.hid hxw
  have HBR : Hid (∀ X, Below w.heap.size w X → BRow X X.heap.size BA bl bs) := fun X hX => (hbr.below hX).more hX.size
  have HWR : Hid (∀ X, Below w.heap.size w X → Row .u16 X X.heap.size WA wl ws) := fun X hX => (hwr.below hX).more hX.size
  clear hf hi hwd hbr hwr hxw
  obtain ⟨z, hz⟩ : ∃ z, IntKind.u16.wrap m = z := ⟨_, rfl⟩
  have hzz := IntKind.wrap_u16 m
  have z0 : 0 ≤ z := by omega
  have z1 : z ≤ 65535 := by omega
  clear hzz
  go_enter Try.func3, Try.ntmps3
  go_wp2_with (first
    | (go_at_call 16
       refine (few_lit fn at_ n y an orr ra rn co ob BA WA bl wl bc wc _ true HF.out).mono ?_
       rintro e w1 ⟨rfl, hb1⟩
       have hk1 : Below (w.heap.size + 1) (w.alloc (.cells #[.int .i64 fn, .int .i64 at_, .int .i64 n, .int .u16 y, .int .u16 an, .int .u16 orr, .slice BA bl bc, .slice WA wl wc, .int .i64 ra, .int .i64 rn, .int .i64 co, .int .i64 ob] 26)) w1 := by
         rwa [show (w.alloc (.cells #[.int .i64 fn, .int .i64 at_, .int .i64 n, .int .u16 y, .int .u16 an, .int .u16 orr, .slice BA bl bc, .slice WA wl wc, .int .i64 ra, .int .i64 rn, .int .i64 co, .int .i64 ob] 26)).heap.size = w.heap.size + 1 by simp] at hb1
       have HA1 := Lib.hid (wbox12 _ _ _ _ _ _ _ _ _ _ _ _ _ w w1 hk1)
       have HB1 : Hid (Below w.heap.size w w1) := ((Below.refl _ _).alloc (Nat.le_refl _) _).trans (hb1.mono (by simp))
       clear hb1 hk1)
    | (go_at_call 17
       refine (awake_any _).mono ?_
       rintro e w2 ⟨rfl, hb2⟩
       have HB2 := Lib.hid (HB1.out.trans (hb2.mono HB1.out.size))
       have HA2 := Lib.hid (HA1.out.below hb2 HA1.out.lt)
       clear hb2)
    | (go_at_call 18
       refine (lask_any k v _ k0 k1 v0 v1).mono ?_
       rintro e w3 ⟨f2, a2, n2, y2, b2, o2, bl2, wl2, r2, m2, c2, j2, B2, W2, bd, wd, bs2, ws2, rfl, hrt2, hwd2, hws2, hob2, how2, hb3⟩
       obtain rfl : bs2.length = bl2 := (own_row hob2).bools.1
       obtain rfl : ws2.length = wl2 := (own_row how2).ints.1
       have s2 := small_of hrt2
       have s3 : bs2.length ≤ 2000 := s2.1
       have s4 : ws2.length ≤ 2000 := s2.2
       have ha3 := HA2.out.below hb3 HA2.out.lt
       have hy3 : w.heap.size < w3.heap.size := ha3.lt
       obtain ⟨hq0, hq1, hq2, hq3, hq4, hq5, hq6, hq7, hq8, hq9, hq10, hq11⟩ := cells12 ha3
       have HA3 := Lib.hid ha3
       have HB3 := Lib.hid (HB2.out.trans (hb3.mono HB2.out.size))
       have HB23 := Lib.hid hb3
       have HRt2 := Lib.hid hrt2
       have HWd2 := Lib.hid hwd2
       have HWs2 := Lib.hid hws2
       have HOb2 := Lib.hid hob2
       have HOw2 := Lib.hid how2
       clear hrt2 hwd2 hws2 hob2 how2 hb3 s2 ha3)
    | (go_at_call 19; (with_reducible refine (within_any x 10 _ x0 x1 (by omega) (by omega)).mono ?_); rintro e w' ⟨rfl, rfl⟩; rw [HI.out])
    | (at_builtin
       have hkW : Below w3.heap.size w3 ((w3.alloc (.cells #[.int .i64 f2, .int .i64 a2, .int .i64 n2, .int .u16 y2, .int .u16 b2, .int .u16 o2, .slice B2 bs2.length bd, .slice W2 ws2.length wd, .int .i64 r2, .int .i64 m2, .int .i64 c2, .int .i64 j2] 26)).alloc (.cells #[.int .u16 z] 22)) := ((Below.refl _ _).alloc (Nat.le_refl _) _).alloc (by simp) _
       have hoW := own_keep HOw2.out hkW
       have hoO := own_keep HOb2.out hkW
       have hrw : RowV ((w3.alloc (.cells #[.int .i64 f2, .int .i64 a2, .int .i64 n2, .int .u16 y2, .int .u16 b2, .int .u16 o2, .slice B2 bs2.length bd, .slice W2 ws2.length wd, .int .i64 r2, .int .i64 m2, .int .i64 c2, .int .i64 j2] 26)).alloc (.cells #[.int .u16 z] 22)) ((w3.alloc (.cells #[.int .i64 f2, .int .i64 a2, .int .i64 n2, .int .u16 y2, .int .u16 b2, .int .u16 o2, .slice B2 bs2.length bd, .slice W2 ws2.length wd, .int .i64 r2, .int .i64 m2, .int .i64 c2, .int .i64 j2] 26)).alloc (.cells #[.int .u16 z] 22)).heap.size (some ⟨w3.heap.size + 1, 0, none⟩) 1 ([z].map (Value.int .u16)) := by
         have h := built_row (w3.alloc (.cells #[.int .i64 f2, .int .i64 a2, .int .i64 n2, .int .u16 y2, .int .u16 b2, .int .u16 o2, .slice B2 bs2.length bd, .slice W2 ws2.length wd, .int .i64 r2, .int .i64 m2, .int .i64 c2, .int .i64 j2] 26)) ((w3.alloc (.cells #[.int .i64 f2, .int .i64 a2, .int .i64 n2, .int .u16 y2, .int .u16 b2, .int .u16 o2, .slice B2 bs2.length bd, .slice W2 ws2.length wd, .int .i64 r2, .int .i64 m2, .int .i64 c2, .int .i64 j2] 26)).alloc (.cells #[.int .u16 z] 22)) ([z].map (Value.int .u16)) 22 (Below.refl _ _)
         rw [show (w3.alloc (.cells #[.int .i64 f2, .int .i64 a2, .int .i64 n2, .int .u16 y2, .int .u16 b2, .int .u16 o2, .slice B2 bs2.length bd, .slice W2 ws2.length wd, .int .i64 r2, .int .i64 m2, .int .i64 c2, .int .i64 j2] 26)).heap.size = w3.heap.size + 1 by simp] at h
         exact h
       have hbxW : WholeV ((w3.alloc (.cells #[.int .i64 f2, .int .i64 a2, .int .i64 n2, .int .u16 y2, .int .u16 b2, .int .u16 o2, .slice B2 bs2.length bd, .slice W2 ws2.length wd, .int .i64 r2, .int .i64 m2, .int .i64 c2, .int .i64 j2] 26)).alloc (.cells #[.int .u16 z] 22)) w3.heap.size 26 [.int .i64 f2, .int .i64 a2, .int .i64 n2, .int .u16 y2, .int .u16 b2, .int .u16 o2, .slice B2 bs2.length bd, .slice W2 ws2.length wd, .int .i64 r2, .int .i64 m2, .int .i64 c2, .int .i64 j2] := by
         have h : WholeV (w3.alloc (.cells #[.int .i64 f2, .int .i64 a2, .int .i64 n2, .int .u16 y2, .int .u16 b2, .int .u16 o2, .slice B2 bs2.length bd, .slice W2 ws2.length wd, .int .i64 r2, .int .i64 m2, .int .i64 c2, .int .i64 j2] 26)) w3.heap.size 26 [.int .i64 f2, .int .i64 a2, .int .i64 n2, .int .u16 y2, .int .u16 b2, .int .u16 o2, .slice B2 bs2.length bd, .slice W2 ws2.length wd, .int .i64 r2, .int .i64 m2, .int .i64 c2, .int .i64 j2] := heap_alloc_new w3 _
         exact h.below ((Below.refl _ _).alloc (Nat.le_refl _) _) (by simp)
       refine wpList_append_row _ (o := ⟨some 65, _, _, _, _, _⟩) rfl (.tmp 61) (.tmp 64) 24 rfl w2.heap.size 22 (.int .u16 0) 2 Try.underlying24 infoW rfl (.slice W2 ws2.length wd) ws2.length (ws2.map (Value.int .u16)) rfl hoW _ (some ⟨w3.heap.size + 1, 0, none⟩) 1 1 ([z].map (Value.int .u16)) rfl hrw (one_cells _ _) (by omega) (by omega) (Nat.le_trans HB23.out.size hkW.size) ?_
       intro v7 w7 hown7 hg7 hat7
       obtain ⟨B7, c7, rfl⟩ := own_slice hown7
       have hne3 : some w3.heap.size ≠ Value.ownBlock (.slice W2 ws2.length wd) := fun he => absurd (own_lt HOw2.out he.symm) (Nat.lt_irrefl _)
       have HBX7 : Hid (WholeV w7 w3.heap.size 26 [.int .i64 f2, .int .i64 a2, .int .i64 n2, .int .u16 y2, .int .u16 b2, .int .u16 o2, .slice B2 bs2.length bd, .slice W2 ws2.length wd, .int .i64 r2, .int .i64 m2, .int .i64 c2, .int .i64 j2]) := (hg7.block _ hbxW.lt hne3).trans hbxW
       have HB27 : Hid (Below w2.heap.size w2 w7) := below_append (HB23.out.trans (hkW.mono HB23.out.size)) hoW hg7 (Nat.le_trans HB23.out.size hkW.size)
       have HB7 : Hid (Below w.heap.size w w7) := HB2.out.trans (HB27.out.mono HB2.out.size)
       have HA7 := Lib.hid (HA2.out.below HB27.out HA2.out.lt)
       have HO7 : Hid (w7.ownsRow w2.heap.size 22 1 (.slice B7 (ws2.length + 1) c7) (ws2.length + 1) ((ws2 ++ [z]).map (Value.int .u16))) := by
         rw [List.map_append]
         exact hown7
       have HOo := Lib.hid (own_grown hoW hoO (by decide) hg7)
       have HNE7 : Hid (Value.ownBlock (.slice B7 (ws2.length + 1) c7) ≠ some w3.heap.size) := by
         intro he
         rcases hat7 with h | h
         · rw [he] at h
           exact hne3 h
         · rw [he] at h
           injection h with h
           simp at h
           omega
       have HNEo : Hid (Value.ownBlock (.slice B2 bs2.length bd) ≠ some w3.heap.size) := fun he => absurd (own_lt HOb2.out he) (Nat.lt_irrefl _)
       have HY3 : Hid (w.heap.size < w3.heap.size) := HA3.out.lt
       obtain ⟨bc0, bc1, bc2, bc3, bc4, bc5, bc6, bc7, bc8, bc9, bc10, bc11⟩ := cells12 HBX7.out
       obtain ⟨bf0, bf1, bf2, bf3, bf4, bf5, bf6, bf7, bf8, bf9, bf10, bf11⟩ := frozen12 HBX7.out
       obtain ⟨ac0, ac1, ac2, ac3, ac4, ac5, ac6, ac7, ac8, ac9, ac10, ac11⟩ := cells12 HA7.out
       have hy7a : w.heap.size < w7.heap.size := HA7.out.lt
       have hy3a : w.heap.size < w3.heap.size := HY3.out
       have hy7 : w3.heap.size < w7.heap.size := HBX7.out.lt
       clear hkW hoW hoO hrw hbxW hown7 hg7 hat7 hne3))
  have hbX : Below w.heap.size w (w7.setCell ⟨w3.heap.size, 7, none⟩ (.slice B7 (ws2.length + 1) c7)) := HB7.out.setCell (p := ⟨w3.heap.size, 7, none⟩) (Nat.le_of_lt HY3.out) _
  have hbxX : WholeV (w7.setCell ⟨w3.heap.size, 7, none⟩ (.slice B7 (ws2.length + 1) c7)) w3.heap.size 26 [.int .i64 f2, .int .i64 a2, .int .i64 n2, .int .u16 y2, .int .u16 b2, .int .u16 o2, .slice B2 bs2.length bd, .slice B7 (ws2.length + 1) c7, .int .i64 r2, .int .i64 m2, .int .i64 c2, .int .i64 j2] := HBX7.out.set 7 _
  have hX7 := own_set HO7.out ⟨w3.heap.size, 7, none⟩ (.slice B7 (ws2.length + 1) c7) HNE7.out
  have hXo := own_set HOo.out ⟨w3.heap.size, 7, none⟩ (.slice B7 (ws2.length + 1) c7) HNEo.out
  have haX : WholeV (w7.setCell ⟨w3.heap.size, 7, none⟩ (.slice B7 (ws2.length + 1) c7)) w.heap.size 26 [.int .i64 fn, .int .i64 at_, .int .i64 n, .int .u16 y, .int .u16 an, .int .u16 orr, .slice BA bl bc, .slice WA wl wc, .int .i64 ra, .int .i64 rn, .int .i64 co, .int .i64 ob] := whole_far HA7.out ⟨w3.heap.size, 7, none⟩ _ (by have := HY3.out; show w3.heap.size ≠ w.heap.size; omega)
  obtain ⟨Y, hY⟩ : ∃ Y, (w7.setCell ⟨w3.heap.size, 7, none⟩ (.slice B7 (ws2.length + 1) c7)) = Y := ⟨_, rfl⟩
  rw [hY] at hbX hbxX hX7 hXo haX
  rw [hY]
  clear hY
  have HBY := Lib.hid hbX
  have HBXY := Lib.hid hbxX
  have HX7 := Lib.hid hX7
  have HXo := Lib.hid hXo
  obtain ⟨p0, p1, p2, p3, p4, p5, p6, p7, p8, p9, p10, p11⟩ := cells12 hbxX
  obtain ⟨qq0, qq1, qq2, qq3, qq4, qq5, qq6, qq7, qq8, qq9, qq10, qq11⟩ := cells12 haX
  have hyY : w3.heap.size < Y.heap.size := hbxX.lt
  have hyZ : w.heap.size < Y.heap.size := haX.lt
  clear hbX hbxX hX7 hXo haX
  refine (ltells_any fn at_ n y an orr bs ws ra rn co ob BA WA bl wl bc wc _ HWd.out (HBR.out _ HBY.out) (HWR.out _ HBY.out) HXW.out hbl hwl).mono ?_
  rintro e w9 ⟨rfl, hb9⟩
  have h9 := HBXY.out.below hb9 HBXY.out.lt
  obtain ⟨r_0, r_1, r_2, r_3, r_4, r_5, r_6, r_7, r_8, r_9, r_10, r_11⟩ := cells12 h9
  have hy9 : w3.heap.size < w9.heap.size := h9.lt
  have HB95 := Lib.hid hb9
  have HB9 := Lib.hid (HBY.out.trans (hb9.mono HBY.out.size))
  clear h9 hb9
  go_wp2_with fail
  refine (ltells_any f2 a2 n2 y2 b2 o2 bs2 (ws2 ++ [z]) r2 m2 c2 j2 B2 B7 bs2.length (ws2.length + 1) bd c7 _ HWd2.out (((own_row HXo.out).bools.below HB95.out).more HB95.out.size) (((own_row HX7.out).ints.below HB95.out).more HB95.out.size) (by intro u hu; rcases List.mem_append.1 hu with hu | hu; exact HWs2.out u hu; simp at hu; omega) (by omega) (by omega)).mono ?_
  rintro e w6 ⟨rfl, hb6⟩
  have HB6 := Lib.hid (HB9.out.trans (hb6.mono HB9.out.size))
  clear hb6
  go_wp2
  go_ret
  exact ⟨rfl, HB6.out⟩

set_option maxRecDepth 100000 in
set_option maxHeartbeats 1000000 in
theorem atells_7 (fn at_ n y an orr : Int) (bs : List Bool) (ws : List Int) (ra rn co ob : Int) (BA WA : Option Addr) (bl wl bc wc : Nat) (k v x m : Int) (w : World) (hwd : Wide at_ n y an orr ra rn co ob) (hbr : BRow w w.heap.size BA bl bs) (hwr : Row .u16 w w.heap.size WA wl ws) (hxw : Words ws) (k0 : -9223372036854775808 ≤ k) (k1 : k ≤ 9223372036854775807) (v0 : -9223372036854775808 ≤ v) (v1 : v ≤ 9223372036854775807) (x0 : -9223372036854775808 ≤ x) (x1 : x ≤ 9223372036854775807) (m0 : -9223372036854775808 ≤ m) (m1 : m ≤ 9223372036854775807) (hf : bl ≤ 2100 ∧ wl ≤ 200) (hi : x % 10 = 7) :
    Calls Try.prog 3 #[.agg #[.int .i64 fn, .int .i64 at_, .int .i64 n, .int .u16 y, .int .u16 an, .int .u16 orr, .slice BA bl bc, .slice WA wl wc, .int .i64 ra, .int .i64 rn, .int .i64 co, .int .i64 ob], .int .i64 k, .int .i64 v, .int .i64 x, .int .i64 m] w fun e w' => e = .returned (.bool true) ∧ Below w.heap.size w w' := by
  have HF := Lib.hid (decide_eq_true hf)
  have hbl : bl ≤ 3000 := by omega
  have hwl : wl ≤ 3000 := by omega
  have HI := Lib.hid hi
  have HWd := Lib.hid hwd
  have HXW := Lib.hid hxw
  have HBR : Hid (∀ X, Below w.heap.size w X → BRow X X.heap.size BA bl bs) := fun X hX => (hbr.below hX).more hX.size
  have HWR : Hid (∀ X, Below w.heap.size w X → Row .u16 X X.heap.size WA wl ws) := fun X hX => (hwr.below hX).more hX.size
  clear hf hi hwd hbr hwr hxw
  go_enter Try.func3, Try.ntmps3
  go_wp2_with (first
    | (go_at_call 16
       refine (few_lit fn at_ n y an orr ra rn co ob BA WA bl wl bc wc _ true HF.out).mono ?_
       rintro e w1 ⟨rfl, hb1⟩
       have hk1 : Below (w.heap.size + 1) (w.alloc (.cells #[.int .i64 fn, .int .i64 at_, .int .i64 n, .int .u16 y, .int .u16 an, .int .u16 orr, .slice BA bl bc, .slice WA wl wc, .int .i64 ra, .int .i64 rn, .int .i64 co, .int .i64 ob] 26)) w1 := by
         rwa [show (w.alloc (.cells #[.int .i64 fn, .int .i64 at_, .int .i64 n, .int .u16 y, .int .u16 an, .int .u16 orr, .slice BA bl bc, .slice WA wl wc, .int .i64 ra, .int .i64 rn, .int .i64 co, .int .i64 ob] 26)).heap.size = w.heap.size + 1 by simp] at hb1
       have HA1 := Lib.hid (wbox12 _ _ _ _ _ _ _ _ _ _ _ _ _ w w1 hk1)
       have HB1 : Hid (Below w.heap.size w w1) := ((Below.refl _ _).alloc (Nat.le_refl _) _).trans (hb1.mono (by simp))
       clear hb1 hk1)
    | (go_at_call 17
       refine (awake_any _).mono ?_
       rintro e w2 ⟨rfl, hb2⟩
       have HB2 := Lib.hid (HB1.out.trans (hb2.mono HB1.out.size))
       have HA2 := Lib.hid (HA1.out.below hb2 HA1.out.lt)
       clear hb2)
    | (go_at_call 18
       refine (lask_any k v _ k0 k1 v0 v1).mono ?_
       rintro e w3 ⟨f2, a2, n2, y2, b2, o2, bl2, wl2, r2, m2, c2, j2, B2, W2, bd, wd, bs2, ws2, rfl, hrt2, hwd2, hws2, hob2, how2, hb3⟩
       obtain rfl : bs2.length = bl2 := (own_row hob2).bools.1
       obtain rfl : ws2.length = wl2 := (own_row how2).ints.1
       have s2 := small_of hrt2
       have s3 : bs2.length ≤ 2000 := s2.1
       have s4 : ws2.length ≤ 2000 := s2.2
       have ha3 := HA2.out.below hb3 HA2.out.lt
       have hy3 : w.heap.size < w3.heap.size := ha3.lt
       obtain ⟨hq0, hq1, hq2, hq3, hq4, hq5, hq6, hq7, hq8, hq9, hq10, hq11⟩ := cells12 ha3
       have HA3 := Lib.hid ha3
       have HB3 := Lib.hid (HB2.out.trans (hb3.mono HB2.out.size))
       have HB23 := Lib.hid hb3
       have HRt2 := Lib.hid hrt2
       have HWd2 := Lib.hid hwd2
       have HWs2 := Lib.hid hws2
       have HOb2 := Lib.hid hob2
       have HOw2 := Lib.hid how2
       clear hrt2 hwd2 hws2 hob2 how2 hb3 s2 ha3)
    | (go_at_call 19; (with_reducible refine (within_any x 10 _ x0 x1 (by omega) (by omega)).mono ?_); rintro e w' ⟨rfl, rfl⟩; rw [HI.out]))
  have hk3 : Below w3.heap.size w3 (w3.alloc (.cells #[.int .i64 f2, .int .i64 a2, .int .i64 n2, .int .u16 y2, .int .u16 b2, .int .u16 o2, .slice B2 bs2.length bd, .slice W2 ws2.length wd, .int .i64 m, .int .i64 m2, .int .i64 c2, .int .i64 j2] 26)) := (Below.refl _ _).alloc (Nat.le_refl _) _
  have HK3 := Lib.hid hk3
  have HB4 : Hid (Below w.heap.size w (w3.alloc (.cells #[.int .i64 f2, .int .i64 a2, .int .i64 n2, .int .u16 y2, .int .u16 b2, .int .u16 o2, .slice B2 bs2.length bd, .slice W2 ws2.length wd, .int .i64 m, .int .i64 m2, .int .i64 c2, .int .i64 j2] 26))) := HB3.out.trans (hk3.mono HB3.out.size)
  have h4 : WholeV (w3.alloc (.cells #[.int .i64 f2, .int .i64 a2, .int .i64 n2, .int .u16 y2, .int .u16 b2, .int .u16 o2, .slice B2 bs2.length bd, .slice W2 ws2.length wd, .int .i64 m, .int .i64 m2, .int .i64 c2, .int .i64 j2] 26)) w3.heap.size 26 [.int .i64 f2, .int .i64 a2, .int .i64 n2, .int .u16 y2, .int .u16 b2, .int .u16 o2, .slice B2 bs2.length bd, .slice W2 ws2.length wd, .int .i64 m, .int .i64 m2, .int .i64 c2, .int .i64 j2] := heap_alloc_new w3 _
  have H4 := Lib.hid h4
  clear hk3 h4
  refine (ltells_any fn at_ n y an orr bs ws ra rn co ob BA WA bl wl bc wc _ HWd.out (HBR.out _ HB4.out) (HWR.out _ HB4.out) HXW.out hbl hwl).mono ?_
  rintro e w5 ⟨rfl, hb5⟩
  have h5 := H4.out.below hb5 H4.out.lt
  obtain ⟨p0, p1, p2, p3, p4, p5, p6, p7, p8, p9, p10, p11⟩ := cells12 h5
  have hy5 : w3.heap.size < w5.heap.size := h5.lt
  have HB35 := Lib.hid (HK3.out.trans (hb5.mono HK3.out.size))
  have HB5 := Lib.hid (HB4.out.trans (hb5.mono HB4.out.size))
  clear h5 hb5
  go_wp2_with fail
  refine (ltells_any f2 a2 n2 y2 b2 o2 bs2 ws2 m m2 c2 j2 B2 W2 bs2.length ws2.length bd wd _ ⟨HWd2.out.a0, HWd2.out.a1, HWd2.out.n0, HWd2.out.n1, HWd2.out.v0, HWd2.out.v1, HWd2.out.x0, HWd2.out.x1, HWd2.out.o0, HWd2.out.o1, m0, m1, HWd2.out.m0, HWd2.out.m1, HWd2.out.c0, HWd2.out.c1, HWd2.out.b0, HWd2.out.b1⟩ (((own_row HOb2.out).bools.below HB35.out).more HB35.out.size) (((own_row HOw2.out).ints.below HB35.out).more HB35.out.size) HWs2.out (by omega) (by omega)).mono ?_
  rintro e w6 ⟨rfl, hb6⟩
  have HB6 := Lib.hid (HB5.out.trans (hb6.mono HB5.out.size))
  clear hb6
  go_wp2
  go_ret
  exact ⟨rfl, HB6.out⟩

set_option maxRecDepth 100000 in
set_option maxHeartbeats 1000000 in
theorem atells_8 (fn at_ n y an orr : Int) (bs : List Bool) (ws : List Int) (ra rn co ob : Int) (BA WA : Option Addr) (bl wl bc wc : Nat) (k v x m : Int) (w : World) (hwd : Wide at_ n y an orr ra rn co ob) (hbr : BRow w w.heap.size BA bl bs) (hwr : Row .u16 w w.heap.size WA wl ws) (hxw : Words ws) (k0 : -9223372036854775808 ≤ k) (k1 : k ≤ 9223372036854775807) (v0 : -9223372036854775808 ≤ v) (v1 : v ≤ 9223372036854775807) (x0 : -9223372036854775808 ≤ x) (x1 : x ≤ 9223372036854775807) (m0 : -9223372036854775808 ≤ m) (m1 : m ≤ 9223372036854775807) (hf : bl ≤ 2100 ∧ wl ≤ 200) (hi : x % 10 = 8) :
    Calls Try.prog 3 #[.agg #[.int .i64 fn, .int .i64 at_, .int .i64 n, .int .u16 y, .int .u16 an, .int .u16 orr, .slice BA bl bc, .slice WA wl wc, .int .i64 ra, .int .i64 rn, .int .i64 co, .int .i64 ob], .int .i64 k, .int .i64 v, .int .i64 x, .int .i64 m] w fun e w' => e = .returned (.bool true) ∧ Below w.heap.size w w' := by
  have HF := Lib.hid (decide_eq_true hf)
  have hbl : bl ≤ 3000 := by omega
  have hwl : wl ≤ 3000 := by omega
  have HI := Lib.hid hi
  have HWd := Lib.hid hwd
  have HXW := Lib.hid hxw
  have HBR : Hid (∀ X, Below w.heap.size w X → BRow X X.heap.size BA bl bs) := fun X hX => (hbr.below hX).more hX.size
  have HWR : Hid (∀ X, Below w.heap.size w X → Row .u16 X X.heap.size WA wl ws) := fun X hX => (hwr.below hX).more hX.size
  clear hf hi hwd hbr hwr hxw
  go_enter Try.func3, Try.ntmps3
  go_wp2_with (first
    | (go_at_call 16
       refine (few_lit fn at_ n y an orr ra rn co ob BA WA bl wl bc wc _ true HF.out).mono ?_
       rintro e w1 ⟨rfl, hb1⟩
       have hk1 : Below (w.heap.size + 1) (w.alloc (.cells #[.int .i64 fn, .int .i64 at_, .int .i64 n, .int .u16 y, .int .u16 an, .int .u16 orr, .slice BA bl bc, .slice WA wl wc, .int .i64 ra, .int .i64 rn, .int .i64 co, .int .i64 ob] 26)) w1 := by
         rwa [show (w.alloc (.cells #[.int .i64 fn, .int .i64 at_, .int .i64 n, .int .u16 y, .int .u16 an, .int .u16 orr, .slice BA bl bc, .slice WA wl wc, .int .i64 ra, .int .i64 rn, .int .i64 co, .int .i64 ob] 26)).heap.size = w.heap.size + 1 by simp] at hb1
       have HA1 := Lib.hid (wbox12 _ _ _ _ _ _ _ _ _ _ _ _ _ w w1 hk1)
       have HB1 : Hid (Below w.heap.size w w1) := ((Below.refl _ _).alloc (Nat.le_refl _) _).trans (hb1.mono (by simp))
       clear hb1 hk1)
    | (go_at_call 17
       refine (awake_any _).mono ?_
       rintro e w2 ⟨rfl, hb2⟩
       have HB2 := Lib.hid (HB1.out.trans (hb2.mono HB1.out.size))
       have HA2 := Lib.hid (HA1.out.below hb2 HA1.out.lt)
       clear hb2)
    | (go_at_call 18
       refine (lask_any k v _ k0 k1 v0 v1).mono ?_
       rintro e w3 ⟨f2, a2, n2, y2, b2, o2, bl2, wl2, r2, m2, c2, j2, B2, W2, bd, wd, bs2, ws2, rfl, hrt2, hwd2, hws2, hob2, how2, hb3⟩
       obtain rfl : bs2.length = bl2 := (own_row hob2).bools.1
       obtain rfl : ws2.length = wl2 := (own_row how2).ints.1
       have s2 := small_of hrt2
       have s3 : bs2.length ≤ 2000 := s2.1
       have s4 : ws2.length ≤ 2000 := s2.2
       have ha3 := HA2.out.below hb3 HA2.out.lt
       have hy3 : w.heap.size < w3.heap.size := ha3.lt
       obtain ⟨hq0, hq1, hq2, hq3, hq4, hq5, hq6, hq7, hq8, hq9, hq10, hq11⟩ := cells12 ha3
       have HA3 := Lib.hid ha3
       have HB3 := Lib.hid (HB2.out.trans (hb3.mono HB2.out.size))
       have HB23 := Lib.hid hb3
       have HRt2 := Lib.hid hrt2
       have HWd2 := Lib.hid hwd2
       have HWs2 := Lib.hid hws2
       have HOb2 := Lib.hid hob2
       have HOw2 := Lib.hid how2
       clear hrt2 hwd2 hws2 hob2 how2 hb3 s2 ha3)
    | (go_at_call 19; (with_reducible refine (within_any x 10 _ x0 x1 (by omega) (by omega)).mono ?_); rintro e w' ⟨rfl, rfl⟩; rw [HI.out]))
  have hk3 : Below w3.heap.size w3 (w3.alloc (.cells #[.int .i64 f2, .int .i64 a2, .int .i64 n2, .int .u16 y2, .int .u16 b2, .int .u16 o2, .slice B2 bs2.length bd, .slice W2 ws2.length wd, .int .i64 r2, .int .i64 m, .int .i64 c2, .int .i64 j2] 26)) := (Below.refl _ _).alloc (Nat.le_refl _) _
  have HK3 := Lib.hid hk3
  have HB4 : Hid (Below w.heap.size w (w3.alloc (.cells #[.int .i64 f2, .int .i64 a2, .int .i64 n2, .int .u16 y2, .int .u16 b2, .int .u16 o2, .slice B2 bs2.length bd, .slice W2 ws2.length wd, .int .i64 r2, .int .i64 m, .int .i64 c2, .int .i64 j2] 26))) := HB3.out.trans (hk3.mono HB3.out.size)
  have h4 : WholeV (w3.alloc (.cells #[.int .i64 f2, .int .i64 a2, .int .i64 n2, .int .u16 y2, .int .u16 b2, .int .u16 o2, .slice B2 bs2.length bd, .slice W2 ws2.length wd, .int .i64 r2, .int .i64 m, .int .i64 c2, .int .i64 j2] 26)) w3.heap.size 26 [.int .i64 f2, .int .i64 a2, .int .i64 n2, .int .u16 y2, .int .u16 b2, .int .u16 o2, .slice B2 bs2.length bd, .slice W2 ws2.length wd, .int .i64 r2, .int .i64 m, .int .i64 c2, .int .i64 j2] := heap_alloc_new w3 _
  have H4 := Lib.hid h4
  clear hk3 h4
  refine (ltells_any fn at_ n y an orr bs ws ra rn co ob BA WA bl wl bc wc _ HWd.out (HBR.out _ HB4.out) (HWR.out _ HB4.out) HXW.out hbl hwl).mono ?_
  rintro e w5 ⟨rfl, hb5⟩
  have h5 := H4.out.below hb5 H4.out.lt
  obtain ⟨p0, p1, p2, p3, p4, p5, p6, p7, p8, p9, p10, p11⟩ := cells12 h5
  have hy5 : w3.heap.size < w5.heap.size := h5.lt
  have HB35 := Lib.hid (HK3.out.trans (hb5.mono HK3.out.size))
  have HB5 := Lib.hid (HB4.out.trans (hb5.mono HB4.out.size))
  clear h5 hb5
  go_wp2_with fail
  refine (ltells_any f2 a2 n2 y2 b2 o2 bs2 ws2 r2 m c2 j2 B2 W2 bs2.length ws2.length bd wd _ ⟨HWd2.out.a0, HWd2.out.a1, HWd2.out.n0, HWd2.out.n1, HWd2.out.v0, HWd2.out.v1, HWd2.out.x0, HWd2.out.x1, HWd2.out.o0, HWd2.out.o1, HWd2.out.r0, HWd2.out.r1, m0, m1, HWd2.out.c0, HWd2.out.c1, HWd2.out.b0, HWd2.out.b1⟩ (((own_row HOb2.out).bools.below HB35.out).more HB35.out.size) (((own_row HOw2.out).ints.below HB35.out).more HB35.out.size) HWs2.out (by omega) (by omega)).mono ?_
  rintro e w6 ⟨rfl, hb6⟩
  have HB6 := Lib.hid (HB5.out.trans (hb6.mono HB5.out.size))
  clear hb6
  go_wp2
  go_ret
  exact ⟨rfl, HB6.out⟩

end Go.Proofs.Ytijfeffjjcbijaa

/- Proved: for every two numbers, near or not, busbarlaw6.TellFails returns true, and its arguments read as before. Conditions: none. -/
import Derived.Test.YtijfeffjjcbijaaAwake6
import Derived.Test.YtijfeffjjcbijaaWithin
namespace Go.Proofs.Ytijfeffjjcbijaa.tellFails
open Go.ChangeShapes Go.WideShapes Go.ChangeAt Go.RowKit
open Go.ChangeMaps (open_string shut_string)
set_option linter.unusedVariables false      -- a walk need not use every 'w<i>' (that an integer argument fits its kind)


theorem or128i (x : Int) (h0 : 0 ≤ x) (h1 : x ≤ 255) : bits .or .i64 x 128 = x % 128 + 128 :=
  byte_cases (p := fun x => bits .or .i64 x 128 = x % 128 + 128) (by decide +kernel) x h0 h1
theorem and127i (x : Int) (h0 : 0 ≤ x) (h1 : x ≤ 255) : bits .and .i64 x 127 = x % 128 :=
  byte_cases (p := fun x => bits .and .i64 x 127 = x % 128) (by decide +kernel) x h0 h1

set_option maxRecDepth 100000 in
set_option maxHeartbeats 1000000 in
theorem fails_nought_raw (fn ex : Int) (w : World) (hx : ex = 0) :
    Calls Try.prog 13 #[.int .i64 fn, .int .i64 ex, .bool false] w fun e w' => e = .returned (.bool true) ∧ Below w.heap.size w w' := by
  subst hx
  go_enter Try.func13, Try.ntmps13
  go_wp2_with (first
    | (go_at_call 34; refine (awake_any _).mono ?_; rintro e w1 ⟨rfl, hb1⟩; have HB1 := Lib.hid hb1; clear hb1)
    | (go_at_call 49; refine (pfail_any fn 0 _).mono ?_; rintro e w2 ⟨rfl, hb2⟩; have HB2 := Lib.hid (HB1.out.trans (hb2.mono HB1.out.size)); clear hb2))
  go_ret
  exact ⟨rfl, HB2.out.alloc HB2.out.size _⟩

set_option maxRecDepth 100000 in
set_option maxHeartbeats 1000000 in
theorem fails_bad_raw (fn ex : Int) (w : World) (hx : ¬ ex = 0) (hn : fn < 0 ∨ 255 < fn ∨ (0 ≤ fn ∧ fn ≤ 255 ∧ ex < 1) ∨ (0 ≤ fn ∧ fn ≤ 255 ∧ 4 < ex ∧ ¬ ex = 6)) :
    Calls Try.prog 13 #[.int .i64 fn, .int .i64 ex, .bool false] w fun e w' => e = .returned (.bool true) ∧ Below w.heap.size w w' := by
  have HN := Lib.hid hn
  rcases hn with hn | hn | ⟨hn1, hn2, hn3⟩ | ⟨hn1, hn2, hn3, hn4⟩
  all_goals
    try have hq1 : (ex == 6) = false := by simp; omega
    try have hq2 : decide (ex ≤ 4) = false := by simp; omega
    try have hq3 : 1 ≤ ex := by omega
    go_enter Try.func13, Try.ntmps13
    go_wp2_with (first
      | (go_at_call 34; refine (awake_any _).mono ?_; rintro e w1 ⟨rfl, hb1⟩; have HB1 := Lib.hid hb1; clear hb1)
      | (go_at_call 49; refine (pfail_any fn ex _).mono ?_; rintro e w2 ⟨rfl, hb2⟩; have HB2 := Lib.hid (HB1.out.trans (hb2.mono HB1.out.size)); clear hb2)
      | (go_at_call 38
         refine (pbT_no fn ex 0 0 0 0 0 0 0 0 0 false 0 0 none none none 0 0 0 _ true wide0 (fits_nil _ _ _) (fun h => absurd ((tell_exc hx).1 h) (by have := HN.out; omega))).mono ?_
         rintro e w3 ⟨rfl, hb3⟩
         have hk2 : Below w.heap.size w (w2.alloc (.cells #[.int .i64 fn, .int .i64 ex, .slice none 0 0, .slice none 0 0, .int .i64 0, .int .i64 0, .int .u16 0, .int .u16 0, .int .u16 0, .int .i64 0, .int .i64 0, .bool false, .int .i64 0, .slice none 0 0] 64)) := HB2.out.alloc HB2.out.size _
         have HB3 := Lib.hid (hk2.trans (hb3.mono hk2.size))
         clear hb3 hk2))

    all_goals
      go_ret
      exact ⟨rfl, HB3.out⟩

set_option maxRecDepth 100000 in
set_option maxHeartbeats 1000000 in
theorem fails_fine1_raw (fn : Int) (w : World) (hf0 : 0 ≤ fn) (hf1 : fn ≤ 255) :
    Calls Try.prog 13 #[.int .i64 fn, .int .i64 1, .bool false] w fun e w' => e = .returned (.bool true) ∧ Below w.heap.size w w' := by
  have eo := or128i fn hf0 hf1
  have ea := and127i fn hf0 hf1
  obtain ⟨y, hy⟩ : ∃ y, fn % 128 = y := ⟨_, rfl⟩
  rw [hy] at eo ea
  have y0 : 0 ≤ y := by omega
  have y1 : y ≤ 127 := by omega
  have HY := Lib.hid hy
  clear hy
  go_enter Try.func13, Try.ntmps13
  go_wp2_with (first
    | (go_at_call 34; refine (awake_any _).mono ?_; rintro e w1 ⟨rfl, hb1⟩; have HB1 := Lib.hid hb1; clear hb1)
    | (go_at_call 49; refine (pfail_any fn 1 _).mono ?_; rintro e w2 ⟨rfl, hb2⟩; have HB2 := Lib.hid (HB1.out.trans (hb2.mono HB1.out.size)); clear hb2))
  refine (pbT_exc fn 1 0 0 0 0 0 0 0 0 0 false 0 0 none none none 0 0 0 _ true wide0 (by omega) ((tell_exc (by omega)).2 ⟨by omega, ⟨hf0, hf1⟩, by decide⟩)).mono ?_
  rintro e w3 ⟨g3, rfl, hg3, hgs, hb3⟩
  rw [HY.out] at hg3
  have HB3 := Lib.hid ((HB2.out.alloc HB2.out.size _).trans (hb3.mono (HB2.out.alloc HB2.out.size _).size))
  have HG3 := Lib.hid hg3
  have hlt := hg3.lt
  have hc0 := hg3.cell 0 (by simp)
  have hc1 := hg3.cell 1 (by simp)
  clear hb3 hg3
  go_wp2_with fail
  refine (pparse_exc _ 2 0 _ (y + 128) 1 _ HG3.out.row (by intro x hx; simp at hx; omega) rfl (by omega) rfl (by omega)).mono ?_
  rintro e w4 ⟨BA, bc, WA, wc, OA, oc, rfl, hb4⟩
  rw [show y + 128 - 128 = y by omega]
  have hd0 := hb4.cell (p := ⟨g3, 0, none⟩) hlt
  have hd1 := hb4.cell (p := ⟨g3, 1, none⟩) hlt
  rw [hc0] at hd0
  rw [hc1] at hd1
  have hlt4 : g3 < w4.heap.size := by have := hb4.size; omega
  have HB4 := Lib.hid (HB3.out.trans (hb4.mono HB3.out.size))
  clear hb4
  go_wp2_with fail
  go_ret
  exact ⟨rfl, HB4.out.alloc HB4.out.size _⟩

set_option maxRecDepth 100000 in
set_option maxHeartbeats 1000000 in
theorem fails_fine2_raw (fn : Int) (w : World) (hf0 : 0 ≤ fn) (hf1 : fn ≤ 255) :
    Calls Try.prog 13 #[.int .i64 fn, .int .i64 2, .bool false] w fun e w' => e = .returned (.bool true) ∧ Below w.heap.size w w' := by
  have eo := or128i fn hf0 hf1
  have ea := and127i fn hf0 hf1
  obtain ⟨y, hy⟩ : ∃ y, fn % 128 = y := ⟨_, rfl⟩
  rw [hy] at eo ea
  have y0 : 0 ≤ y := by omega
  have y1 : y ≤ 127 := by omega
  have HY := Lib.hid hy
  clear hy
  go_enter Try.func13, Try.ntmps13
  go_wp2_with (first
    | (go_at_call 34; refine (awake_any _).mono ?_; rintro e w1 ⟨rfl, hb1⟩; have HB1 := Lib.hid hb1; clear hb1)
    | (go_at_call 49; refine (pfail_any fn 2 _).mono ?_; rintro e w2 ⟨rfl, hb2⟩; have HB2 := Lib.hid (HB1.out.trans (hb2.mono HB1.out.size)); clear hb2))
  refine (pbT_exc fn 2 0 0 0 0 0 0 0 0 0 false 0 0 none none none 0 0 0 _ true wide0 (by omega) ((tell_exc (by omega)).2 ⟨by omega, ⟨hf0, hf1⟩, by decide⟩)).mono ?_
  rintro e w3 ⟨g3, rfl, hg3, hgs, hb3⟩
  rw [HY.out] at hg3
  have HB3 := Lib.hid ((HB2.out.alloc HB2.out.size _).trans (hb3.mono (HB2.out.alloc HB2.out.size _).size))
  have HG3 := Lib.hid hg3
  have hlt := hg3.lt
  have hc0 := hg3.cell 0 (by simp)
  have hc1 := hg3.cell 1 (by simp)
  clear hb3 hg3
  go_wp2_with fail
  refine (pparse_exc _ 2 0 _ (y + 128) 2 _ HG3.out.row (by intro x hx; simp at hx; omega) rfl (by omega) rfl (by omega)).mono ?_
  rintro e w4 ⟨BA, bc, WA, wc, OA, oc, rfl, hb4⟩
  rw [show y + 128 - 128 = y by omega]
  have hd0 := hb4.cell (p := ⟨g3, 0, none⟩) hlt
  have hd1 := hb4.cell (p := ⟨g3, 1, none⟩) hlt
  rw [hc0] at hd0
  rw [hc1] at hd1
  have hlt4 : g3 < w4.heap.size := by have := hb4.size; omega
  have HB4 := Lib.hid (HB3.out.trans (hb4.mono HB3.out.size))
  clear hb4
  go_wp2_with fail
  go_ret
  exact ⟨rfl, HB4.out.alloc HB4.out.size _⟩

set_option maxRecDepth 100000 in
set_option maxHeartbeats 1000000 in
theorem fails_fine3_raw (fn : Int) (w : World) (hf0 : 0 ≤ fn) (hf1 : fn ≤ 255) :
    Calls Try.prog 13 #[.int .i64 fn, .int .i64 3, .bool false] w fun e w' => e = .returned (.bool true) ∧ Below w.heap.size w w' := by
  have eo := or128i fn hf0 hf1
  have ea := and127i fn hf0 hf1
  obtain ⟨y, hy⟩ : ∃ y, fn % 128 = y := ⟨_, rfl⟩
  rw [hy] at eo ea
  have y0 : 0 ≤ y := by omega
  have y1 : y ≤ 127 := by omega
  have HY := Lib.hid hy
  clear hy
  go_enter Try.func13, Try.ntmps13
  go_wp2_with (first
    | (go_at_call 34; refine (awake_any _).mono ?_; rintro e w1 ⟨rfl, hb1⟩; have HB1 := Lib.hid hb1; clear hb1)
    | (go_at_call 49; refine (pfail_any fn 3 _).mono ?_; rintro e w2 ⟨rfl, hb2⟩; have HB2 := Lib.hid (HB1.out.trans (hb2.mono HB1.out.size)); clear hb2))
  refine (pbT_exc fn 3 0 0 0 0 0 0 0 0 0 false 0 0 none none none 0 0 0 _ true wide0 (by omega) ((tell_exc (by omega)).2 ⟨by omega, ⟨hf0, hf1⟩, by decide⟩)).mono ?_
  rintro e w3 ⟨g3, rfl, hg3, hgs, hb3⟩
  rw [HY.out] at hg3
  have HB3 := Lib.hid ((HB2.out.alloc HB2.out.size _).trans (hb3.mono (HB2.out.alloc HB2.out.size _).size))
  have HG3 := Lib.hid hg3
  have hlt := hg3.lt
  have hc0 := hg3.cell 0 (by simp)
  have hc1 := hg3.cell 1 (by simp)
  clear hb3 hg3
  go_wp2_with fail
  refine (pparse_exc _ 2 0 _ (y + 128) 3 _ HG3.out.row (by intro x hx; simp at hx; omega) rfl (by omega) rfl (by omega)).mono ?_
  rintro e w4 ⟨BA, bc, WA, wc, OA, oc, rfl, hb4⟩
  rw [show y + 128 - 128 = y by omega]
  have hd0 := hb4.cell (p := ⟨g3, 0, none⟩) hlt
  have hd1 := hb4.cell (p := ⟨g3, 1, none⟩) hlt
  rw [hc0] at hd0
  rw [hc1] at hd1
  have hlt4 : g3 < w4.heap.size := by have := hb4.size; omega
  have HB4 := Lib.hid (HB3.out.trans (hb4.mono HB3.out.size))
  clear hb4
  go_wp2_with fail
  go_ret
  exact ⟨rfl, HB4.out.alloc HB4.out.size _⟩

set_option maxRecDepth 100000 in
set_option maxHeartbeats 1000000 in
theorem fails_fine4_raw (fn : Int) (w : World) (hf0 : 0 ≤ fn) (hf1 : fn ≤ 255) :
    Calls Try.prog 13 #[.int .i64 fn, .int .i64 4, .bool false] w fun e w' => e = .returned (.bool true) ∧ Below w.heap.size w w' := by
  have eo := or128i fn hf0 hf1
  have ea := and127i fn hf0 hf1
  obtain ⟨y, hy⟩ : ∃ y, fn % 128 = y := ⟨_, rfl⟩
  rw [hy] at eo ea
  have y0 : 0 ≤ y := by omega
  have y1 : y ≤ 127 := by omega
  have HY := Lib.hid hy
  clear hy
  go_enter Try.func13, Try.ntmps13
  go_wp2_with (first
    | (go_at_call 34; refine (awake_any _).mono ?_; rintro e w1 ⟨rfl, hb1⟩; have HB1 := Lib.hid hb1; clear hb1)
    | (go_at_call 49; refine (pfail_any fn 4 _).mono ?_; rintro e w2 ⟨rfl, hb2⟩; have HB2 := Lib.hid (HB1.out.trans (hb2.mono HB1.out.size)); clear hb2))
  refine (pbT_exc fn 4 0 0 0 0 0 0 0 0 0 false 0 0 none none none 0 0 0 _ true wide0 (by omega) ((tell_exc (by omega)).2 ⟨by omega, ⟨hf0, hf1⟩, by decide⟩)).mono ?_
  rintro e w3 ⟨g3, rfl, hg3, hgs, hb3⟩
  rw [HY.out] at hg3
  have HB3 := Lib.hid ((HB2.out.alloc HB2.out.size _).trans (hb3.mono (HB2.out.alloc HB2.out.size _).size))
  have HG3 := Lib.hid hg3
  have hlt := hg3.lt
  have hc0 := hg3.cell 0 (by simp)
  have hc1 := hg3.cell 1 (by simp)
  clear hb3 hg3
  go_wp2_with fail
  refine (pparse_exc _ 2 0 _ (y + 128) 4 _ HG3.out.row (by intro x hx; simp at hx; omega) rfl (by omega) rfl (by omega)).mono ?_
  rintro e w4 ⟨BA, bc, WA, wc, OA, oc, rfl, hb4⟩
  rw [show y + 128 - 128 = y by omega]
  have hd0 := hb4.cell (p := ⟨g3, 0, none⟩) hlt
  have hd1 := hb4.cell (p := ⟨g3, 1, none⟩) hlt
  rw [hc0] at hd0
  rw [hc1] at hd1
  have hlt4 : g3 < w4.heap.size := by have := hb4.size; omega
  have HB4 := Lib.hid (HB3.out.trans (hb4.mono HB3.out.size))
  clear hb4
  go_wp2_with fail
  go_ret
  exact ⟨rfl, HB4.out.alloc HB4.out.size _⟩

set_option maxRecDepth 100000 in
set_option maxHeartbeats 1000000 in
theorem fails_fine6_raw (fn : Int) (w : World) (hf0 : 0 ≤ fn) (hf1 : fn ≤ 255) :
    Calls Try.prog 13 #[.int .i64 fn, .int .i64 6, .bool false] w fun e w' => e = .returned (.bool true) ∧ Below w.heap.size w w' := by
  have eo := or128i fn hf0 hf1
  have ea := and127i fn hf0 hf1
  obtain ⟨y, hy⟩ : ∃ y, fn % 128 = y := ⟨_, rfl⟩
  rw [hy] at eo ea
  have y0 : 0 ≤ y := by omega
  have y1 : y ≤ 127 := by omega
  have HY := Lib.hid hy
  clear hy
  go_enter Try.func13, Try.ntmps13
  go_wp2_with (first
    | (go_at_call 34; refine (awake_any _).mono ?_; rintro e w1 ⟨rfl, hb1⟩; have HB1 := Lib.hid hb1; clear hb1)
    | (go_at_call 49; refine (pfail_any fn 6 _).mono ?_; rintro e w2 ⟨rfl, hb2⟩; have HB2 := Lib.hid (HB1.out.trans (hb2.mono HB1.out.size)); clear hb2))
  refine (pbT_exc fn 6 0 0 0 0 0 0 0 0 0 false 0 0 none none none 0 0 0 _ true wide0 (by omega) ((tell_exc (by omega)).2 ⟨by omega, ⟨hf0, hf1⟩, by decide⟩)).mono ?_
  rintro e w3 ⟨g3, rfl, hg3, hgs, hb3⟩
  rw [HY.out] at hg3
  have HB3 := Lib.hid ((HB2.out.alloc HB2.out.size _).trans (hb3.mono (HB2.out.alloc HB2.out.size _).size))
  have HG3 := Lib.hid hg3
  have hlt := hg3.lt
  have hc0 := hg3.cell 0 (by simp)
  have hc1 := hg3.cell 1 (by simp)
  clear hb3 hg3
  go_wp2_with fail
  refine (pparse_exc _ 2 0 _ (y + 128) 6 _ HG3.out.row (by intro x hx; simp at hx; omega) rfl (by omega) rfl (by omega)).mono ?_
  rintro e w4 ⟨BA, bc, WA, wc, OA, oc, rfl, hb4⟩
  rw [show y + 128 - 128 = y by omega]
  have hd0 := hb4.cell (p := ⟨g3, 0, none⟩) hlt
  have hd1 := hb4.cell (p := ⟨g3, 1, none⟩) hlt
  rw [hc0] at hd0
  rw [hc1] at hd1
  have hlt4 : g3 < w4.heap.size := by have := hb4.size; omega
  have HB4 := Lib.hid (HB3.out.trans (hb4.mono HB3.out.size))
  clear hb4
  go_wp2_with fail
  go_ret
  exact ⟨rfl, HB4.out.alloc HB4.out.size _⟩

set_option maxRecDepth 100000 in
set_option maxHeartbeats 1000000 in
theorem fails_nought_near (a b fn ex : Int) (HF : Hid (a % 256 = fn)) (HE : Hid (b % 9 = ex)) (a0 : -9223372036854775808 ≤ a) (a1 : a ≤ 9223372036854775807) (b0 : -9223372036854775808 ≤ b) (b1 : b ≤ 9223372036854775807) (w : World) (hx : ex = 0) :
    Calls Try.prog 13 #[.int .i64 a, .int .i64 b, .bool true] w fun e w' => e = .returned (.bool true) ∧ Below w.heap.size w w' := by
  subst hx
  go_enter Try.func13, Try.ntmps13
  go_wp2_with (first
    | (go_at_call 19; (with_reducible refine (within_any a 256 _ a0 a1 (by omega) (by omega)).mono ?_); rintro e w' ⟨rfl, rfl⟩; rw [HF.out])
    | (go_at_call 19; (with_reducible refine (within_any b 9 _ b0 b1 (by omega) (by omega)).mono ?_); rintro e w' ⟨rfl, rfl⟩; rw [HE.out])
    | (go_at_call 34; refine (awake_any _).mono ?_; rintro e w1 ⟨rfl, hb1⟩; have HB1 := Lib.hid hb1; clear hb1)
    | (go_at_call 49; refine (pfail_any fn 0 _).mono ?_; rintro e w2 ⟨rfl, hb2⟩; have HB2 := Lib.hid (HB1.out.trans (hb2.mono HB1.out.size)); clear hb2))
  go_ret
  exact ⟨rfl, HB2.out.alloc HB2.out.size _⟩

set_option maxRecDepth 100000 in
set_option maxHeartbeats 1000000 in
theorem fails_bad_near (a b fn ex : Int) (HF : Hid (a % 256 = fn)) (HE : Hid (b % 9 = ex)) (a0 : -9223372036854775808 ≤ a) (a1 : a ≤ 9223372036854775807) (b0 : -9223372036854775808 ≤ b) (b1 : b ≤ 9223372036854775807) (w : World) (hx : ¬ ex = 0) (hn : fn < 0 ∨ 255 < fn ∨ (0 ≤ fn ∧ fn ≤ 255 ∧ ex < 1) ∨ (0 ≤ fn ∧ fn ≤ 255 ∧ 4 < ex ∧ ¬ ex = 6)) :
    Calls Try.prog 13 #[.int .i64 a, .int .i64 b, .bool true] w fun e w' => e = .returned (.bool true) ∧ Below w.heap.size w w' := by
  have HN := Lib.hid hn
  rcases hn with hn | hn | ⟨hn1, hn2, hn3⟩ | ⟨hn1, hn2, hn3, hn4⟩
  all_goals
    try have hq1 : (ex == 6) = false := by simp; omega
    try have hq2 : decide (ex ≤ 4) = false := by simp; omega
    try have hq3 : 1 ≤ ex := by omega
    go_enter Try.func13, Try.ntmps13
    go_wp2_with (first
      | (go_at_call 19; (with_reducible refine (within_any a 256 _ a0 a1 (by omega) (by omega)).mono ?_); rintro e w' ⟨rfl, rfl⟩; rw [HF.out])
      | (go_at_call 19; (with_reducible refine (within_any b 9 _ b0 b1 (by omega) (by omega)).mono ?_); rintro e w' ⟨rfl, rfl⟩; rw [HE.out])
      | (go_at_call 34; refine (awake_any _).mono ?_; rintro e w1 ⟨rfl, hb1⟩; have HB1 := Lib.hid hb1; clear hb1)
      | (go_at_call 49; refine (pfail_any fn ex _).mono ?_; rintro e w2 ⟨rfl, hb2⟩; have HB2 := Lib.hid (HB1.out.trans (hb2.mono HB1.out.size)); clear hb2)
      | (go_at_call 38
         refine (pbT_no fn ex 0 0 0 0 0 0 0 0 0 false 0 0 none none none 0 0 0 _ true wide0 (fits_nil _ _ _) (fun h => absurd ((tell_exc hx).1 h) (by have := HN.out; omega))).mono ?_
         rintro e w3 ⟨rfl, hb3⟩
         have hk2 : Below w.heap.size w (w2.alloc (.cells #[.int .i64 fn, .int .i64 ex, .slice none 0 0, .slice none 0 0, .int .i64 0, .int .i64 0, .int .u16 0, .int .u16 0, .int .u16 0, .int .i64 0, .int .i64 0, .bool false, .int .i64 0, .slice none 0 0] 64)) := HB2.out.alloc HB2.out.size _
         have HB3 := Lib.hid (hk2.trans (hb3.mono hk2.size))
         clear hb3 hk2))

    all_goals
      go_ret
      exact ⟨rfl, HB3.out⟩

set_option maxRecDepth 100000 in
set_option maxHeartbeats 1000000 in
theorem fails_fine1_near (a b fn : Int) (HF : Hid (a % 256 = fn)) (HE : Hid (b % 9 = 1)) (a0 : -9223372036854775808 ≤ a) (a1 : a ≤ 9223372036854775807) (b0 : -9223372036854775808 ≤ b) (b1 : b ≤ 9223372036854775807) (w : World) (hf0 : 0 ≤ fn) (hf1 : fn ≤ 255) :
    Calls Try.prog 13 #[.int .i64 a, .int .i64 b, .bool true] w fun e w' => e = .returned (.bool true) ∧ Below w.heap.size w w' := by
  have eo := or128i fn hf0 hf1
  have ea := and127i fn hf0 hf1
  obtain ⟨y, hy⟩ : ∃ y, fn % 128 = y := ⟨_, rfl⟩
  rw [hy] at eo ea
  have y0 : 0 ≤ y := by omega
  have y1 : y ≤ 127 := by omega
  have HY := Lib.hid hy
  clear hy
  go_enter Try.func13, Try.ntmps13
  go_wp2_with (first
    | (go_at_call 19; (with_reducible refine (within_any a 256 _ a0 a1 (by omega) (by omega)).mono ?_); rintro e w' ⟨rfl, rfl⟩; rw [HF.out])
    | (go_at_call 19; (with_reducible refine (within_any b 9 _ b0 b1 (by omega) (by omega)).mono ?_); rintro e w' ⟨rfl, rfl⟩; rw [HE.out])
    | (go_at_call 34; refine (awake_any _).mono ?_; rintro e w1 ⟨rfl, hb1⟩; have HB1 := Lib.hid hb1; clear hb1)
    | (go_at_call 49; refine (pfail_any fn 1 _).mono ?_; rintro e w2 ⟨rfl, hb2⟩; have HB2 := Lib.hid (HB1.out.trans (hb2.mono HB1.out.size)); clear hb2))
  refine (pbT_exc fn 1 0 0 0 0 0 0 0 0 0 false 0 0 none none none 0 0 0 _ true wide0 (by omega) ((tell_exc (by omega)).2 ⟨by omega, ⟨hf0, hf1⟩, by decide⟩)).mono ?_
  rintro e w3 ⟨g3, rfl, hg3, hgs, hb3⟩
  rw [HY.out] at hg3
  have HB3 := Lib.hid ((HB2.out.alloc HB2.out.size _).trans (hb3.mono (HB2.out.alloc HB2.out.size _).size))
  have HG3 := Lib.hid hg3
  have hlt := hg3.lt
  have hc0 := hg3.cell 0 (by simp)
  have hc1 := hg3.cell 1 (by simp)
  clear hb3 hg3
  go_wp2_with fail
  refine (pparse_exc _ 2 0 _ (y + 128) 1 _ HG3.out.row (by intro x hx; simp at hx; omega) rfl (by omega) rfl (by omega)).mono ?_
  rintro e w4 ⟨BA, bc, WA, wc, OA, oc, rfl, hb4⟩
  rw [show y + 128 - 128 = y by omega]
  have hd0 := hb4.cell (p := ⟨g3, 0, none⟩) hlt
  have hd1 := hb4.cell (p := ⟨g3, 1, none⟩) hlt
  rw [hc0] at hd0
  rw [hc1] at hd1
  have hlt4 : g3 < w4.heap.size := by have := hb4.size; omega
  have HB4 := Lib.hid (HB3.out.trans (hb4.mono HB3.out.size))
  clear hb4
  go_wp2_with fail
  go_ret
  exact ⟨rfl, HB4.out.alloc HB4.out.size _⟩

set_option maxRecDepth 100000 in
set_option maxHeartbeats 1000000 in
theorem fails_fine2_near (a b fn : Int) (HF : Hid (a % 256 = fn)) (HE : Hid (b % 9 = 2)) (a0 : -9223372036854775808 ≤ a) (a1 : a ≤ 9223372036854775807) (b0 : -9223372036854775808 ≤ b) (b1 : b ≤ 9223372036854775807) (w : World) (hf0 : 0 ≤ fn) (hf1 : fn ≤ 255) :
    Calls Try.prog 13 #[.int .i64 a, .int .i64 b, .bool true] w fun e w' => e = .returned (.bool true) ∧ Below w.heap.size w w' := by
  have eo := or128i fn hf0 hf1
  have ea := and127i fn hf0 hf1
  obtain ⟨y, hy⟩ : ∃ y, fn % 128 = y := ⟨_, rfl⟩
  rw [hy] at eo ea
  have y0 : 0 ≤ y := by omega
  have y1 : y ≤ 127 := by omega
  have HY := Lib.hid hy
  clear hy
  go_enter Try.func13, Try.ntmps13
  go_wp2_with (first
    | (go_at_call 19; (with_reducible refine (within_any a 256 _ a0 a1 (by omega) (by omega)).mono ?_); rintro e w' ⟨rfl, rfl⟩; rw [HF.out])
    | (go_at_call 19; (with_reducible refine (within_any b 9 _ b0 b1 (by omega) (by omega)).mono ?_); rintro e w' ⟨rfl, rfl⟩; rw [HE.out])
    | (go_at_call 34; refine (awake_any _).mono ?_; rintro e w1 ⟨rfl, hb1⟩; have HB1 := Lib.hid hb1; clear hb1)
    | (go_at_call 49; refine (pfail_any fn 2 _).mono ?_; rintro e w2 ⟨rfl, hb2⟩; have HB2 := Lib.hid (HB1.out.trans (hb2.mono HB1.out.size)); clear hb2))
  refine (pbT_exc fn 2 0 0 0 0 0 0 0 0 0 false 0 0 none none none 0 0 0 _ true wide0 (by omega) ((tell_exc (by omega)).2 ⟨by omega, ⟨hf0, hf1⟩, by decide⟩)).mono ?_
  rintro e w3 ⟨g3, rfl, hg3, hgs, hb3⟩
  rw [HY.out] at hg3
  have HB3 := Lib.hid ((HB2.out.alloc HB2.out.size _).trans (hb3.mono (HB2.out.alloc HB2.out.size _).size))
  have HG3 := Lib.hid hg3
  have hlt := hg3.lt
  have hc0 := hg3.cell 0 (by simp)
  have hc1 := hg3.cell 1 (by simp)
  clear hb3 hg3
  go_wp2_with fail
  refine (pparse_exc _ 2 0 _ (y + 128) 2 _ HG3.out.row (by intro x hx; simp at hx; omega) rfl (by omega) rfl (by omega)).mono ?_
  rintro e w4 ⟨BA, bc, WA, wc, OA, oc, rfl, hb4⟩
  rw [show y + 128 - 128 = y by omega]
  have hd0 := hb4.cell (p := ⟨g3, 0, none⟩) hlt
  have hd1 := hb4.cell (p := ⟨g3, 1, none⟩) hlt
  rw [hc0] at hd0
  rw [hc1] at hd1
  have hlt4 : g3 < w4.heap.size := by have := hb4.size; omega
  have HB4 := Lib.hid (HB3.out.trans (hb4.mono HB3.out.size))
  clear hb4
  go_wp2_with fail
  go_ret
  exact ⟨rfl, HB4.out.alloc HB4.out.size _⟩

set_option maxRecDepth 100000 in
set_option maxHeartbeats 1000000 in
theorem fails_fine3_near (a b fn : Int) (HF : Hid (a % 256 = fn)) (HE : Hid (b % 9 = 3)) (a0 : -9223372036854775808 ≤ a) (a1 : a ≤ 9223372036854775807) (b0 : -9223372036854775808 ≤ b) (b1 : b ≤ 9223372036854775807) (w : World) (hf0 : 0 ≤ fn) (hf1 : fn ≤ 255) :
    Calls Try.prog 13 #[.int .i64 a, .int .i64 b, .bool true] w fun e w' => e = .returned (.bool true) ∧ Below w.heap.size w w' := by
  have eo := or128i fn hf0 hf1
  have ea := and127i fn hf0 hf1
  obtain ⟨y, hy⟩ : ∃ y, fn % 128 = y := ⟨_, rfl⟩
  rw [hy] at eo ea
  have y0 : 0 ≤ y := by omega
  have y1 : y ≤ 127 := by omega
  have HY := Lib.hid hy
  clear hy
  go_enter Try.func13, Try.ntmps13
  go_wp2_with (first
    | (go_at_call 19; (with_reducible refine (within_any a 256 _ a0 a1 (by omega) (by omega)).mono ?_); rintro e w' ⟨rfl, rfl⟩; rw [HF.out])
    | (go_at_call 19; (with_reducible refine (within_any b 9 _ b0 b1 (by omega) (by omega)).mono ?_); rintro e w' ⟨rfl, rfl⟩; rw [HE.out])
    | (go_at_call 34; refine (awake_any _).mono ?_; rintro e w1 ⟨rfl, hb1⟩; have HB1 := Lib.hid hb1; clear hb1)
    | (go_at_call 49; refine (pfail_any fn 3 _).mono ?_; rintro e w2 ⟨rfl, hb2⟩; have HB2 := Lib.hid (HB1.out.trans (hb2.mono HB1.out.size)); clear hb2))
  refine (pbT_exc fn 3 0 0 0 0 0 0 0 0 0 false 0 0 none none none 0 0 0 _ true wide0 (by omega) ((tell_exc (by omega)).2 ⟨by omega, ⟨hf0, hf1⟩, by decide⟩)).mono ?_
  rintro e w3 ⟨g3, rfl, hg3, hgs, hb3⟩
  rw [HY.out] at hg3
  have HB3 := Lib.hid ((HB2.out.alloc HB2.out.size _).trans (hb3.mono (HB2.out.alloc HB2.out.size _).size))
  have HG3 := Lib.hid hg3
  have hlt := hg3.lt
  have hc0 := hg3.cell 0 (by simp)
  have hc1 := hg3.cell 1 (by simp)
  clear hb3 hg3
  go_wp2_with fail
  refine (pparse_exc _ 2 0 _ (y + 128) 3 _ HG3.out.row (by intro x hx; simp at hx; omega) rfl (by omega) rfl (by omega)).mono ?_
  rintro e w4 ⟨BA, bc, WA, wc, OA, oc, rfl, hb4⟩
  rw [show y + 128 - 128 = y by omega]
  have hd0 := hb4.cell (p := ⟨g3, 0, none⟩) hlt
  have hd1 := hb4.cell (p := ⟨g3, 1, none⟩) hlt
  rw [hc0] at hd0
  rw [hc1] at hd1
  have hlt4 : g3 < w4.heap.size := by have := hb4.size; omega
  have HB4 := Lib.hid (HB3.out.trans (hb4.mono HB3.out.size))
  clear hb4
  go_wp2_with fail
  go_ret
  exact ⟨rfl, HB4.out.alloc HB4.out.size _⟩

set_option maxRecDepth 100000 in
set_option maxHeartbeats 1000000 in
theorem fails_fine4_near (a b fn : Int) (HF : Hid (a % 256 = fn)) (HE : Hid (b % 9 = 4)) (a0 : -9223372036854775808 ≤ a) (a1 : a ≤ 9223372036854775807) (b0 : -9223372036854775808 ≤ b) (b1 : b ≤ 9223372036854775807) (w : World) (hf0 : 0 ≤ fn) (hf1 : fn ≤ 255) :
    Calls Try.prog 13 #[.int .i64 a, .int .i64 b, .bool true] w fun e w' => e = .returned (.bool true) ∧ Below w.heap.size w w' := by
  have eo := or128i fn hf0 hf1
  have ea := and127i fn hf0 hf1
  obtain ⟨y, hy⟩ : ∃ y, fn % 128 = y := ⟨_, rfl⟩
  rw [hy] at eo ea
  have y0 : 0 ≤ y := by omega
  have y1 : y ≤ 127 := by omega
  have HY := Lib.hid hy
  clear hy
  go_enter Try.func13, Try.ntmps13
  go_wp2_with (first
    | (go_at_call 19; (with_reducible refine (within_any a 256 _ a0 a1 (by omega) (by omega)).mono ?_); rintro e w' ⟨rfl, rfl⟩; rw [HF.out])
    | (go_at_call 19; (with_reducible refine (within_any b 9 _ b0 b1 (by omega) (by omega)).mono ?_); rintro e w' ⟨rfl, rfl⟩; rw [HE.out])
    | (go_at_call 34; refine (awake_any _).mono ?_; rintro e w1 ⟨rfl, hb1⟩; have HB1 := Lib.hid hb1; clear hb1)
    | (go_at_call 49; refine (pfail_any fn 4 _).mono ?_; rintro e w2 ⟨rfl, hb2⟩; have HB2 := Lib.hid (HB1.out.trans (hb2.mono HB1.out.size)); clear hb2))
  refine (pbT_exc fn 4 0 0 0 0 0 0 0 0 0 false 0 0 none none none 0 0 0 _ true wide0 (by omega) ((tell_exc (by omega)).2 ⟨by omega, ⟨hf0, hf1⟩, by decide⟩)).mono ?_
  rintro e w3 ⟨g3, rfl, hg3, hgs, hb3⟩
  rw [HY.out] at hg3
  have HB3 := Lib.hid ((HB2.out.alloc HB2.out.size _).trans (hb3.mono (HB2.out.alloc HB2.out.size _).size))
  have HG3 := Lib.hid hg3
  have hlt := hg3.lt
  have hc0 := hg3.cell 0 (by simp)
  have hc1 := hg3.cell 1 (by simp)
  clear hb3 hg3
  go_wp2_with fail
  refine (pparse_exc _ 2 0 _ (y + 128) 4 _ HG3.out.row (by intro x hx; simp at hx; omega) rfl (by omega) rfl (by omega)).mono ?_
  rintro e w4 ⟨BA, bc, WA, wc, OA, oc, rfl, hb4⟩
  rw [show y + 128 - 128 = y by omega]
  have hd0 := hb4.cell (p := ⟨g3, 0, none⟩) hlt
  have hd1 := hb4.cell (p := ⟨g3, 1, none⟩) hlt
  rw [hc0] at hd0
  rw [hc1] at hd1
  have hlt4 : g3 < w4.heap.size := by have := hb4.size; omega
  have HB4 := Lib.hid (HB3.out.trans (hb4.mono HB3.out.size))
  clear hb4
  go_wp2_with fail
  go_ret
  exact ⟨rfl, HB4.out.alloc HB4.out.size _⟩

set_option maxRecDepth 100000 in
set_option maxHeartbeats 1000000 in
theorem fails_fine6_near (a b fn : Int) (HF : Hid (a % 256 = fn)) (HE : Hid (b % 9 = 6)) (a0 : -9223372036854775808 ≤ a) (a1 : a ≤ 9223372036854775807) (b0 : -9223372036854775808 ≤ b) (b1 : b ≤ 9223372036854775807) (w : World) (hf0 : 0 ≤ fn) (hf1 : fn ≤ 255) :
    Calls Try.prog 13 #[.int .i64 a, .int .i64 b, .bool true] w fun e w' => e = .returned (.bool true) ∧ Below w.heap.size w w' := by
  have eo := or128i fn hf0 hf1
  have ea := and127i fn hf0 hf1
  obtain ⟨y, hy⟩ : ∃ y, fn % 128 = y := ⟨_, rfl⟩
  rw [hy] at eo ea
  have y0 : 0 ≤ y := by omega
  have y1 : y ≤ 127 := by omega
  have HY := Lib.hid hy
  clear hy
  go_enter Try.func13, Try.ntmps13
  go_wp2_with (first
    | (go_at_call 19; (with_reducible refine (within_any a 256 _ a0 a1 (by omega) (by omega)).mono ?_); rintro e w' ⟨rfl, rfl⟩; rw [HF.out])
    | (go_at_call 19; (with_reducible refine (within_any b 9 _ b0 b1 (by omega) (by omega)).mono ?_); rintro e w' ⟨rfl, rfl⟩; rw [HE.out])
    | (go_at_call 34; refine (awake_any _).mono ?_; rintro e w1 ⟨rfl, hb1⟩; have HB1 := Lib.hid hb1; clear hb1)
    | (go_at_call 49; refine (pfail_any fn 6 _).mono ?_; rintro e w2 ⟨rfl, hb2⟩; have HB2 := Lib.hid (HB1.out.trans (hb2.mono HB1.out.size)); clear hb2))
  refine (pbT_exc fn 6 0 0 0 0 0 0 0 0 0 false 0 0 none none none 0 0 0 _ true wide0 (by omega) ((tell_exc (by omega)).2 ⟨by omega, ⟨hf0, hf1⟩, by decide⟩)).mono ?_
  rintro e w3 ⟨g3, rfl, hg3, hgs, hb3⟩
  rw [HY.out] at hg3
  have HB3 := Lib.hid ((HB2.out.alloc HB2.out.size _).trans (hb3.mono (HB2.out.alloc HB2.out.size _).size))
  have HG3 := Lib.hid hg3
  have hlt := hg3.lt
  have hc0 := hg3.cell 0 (by simp)
  have hc1 := hg3.cell 1 (by simp)
  clear hb3 hg3
  go_wp2_with fail
  refine (pparse_exc _ 2 0 _ (y + 128) 6 _ HG3.out.row (by intro x hx; simp at hx; omega) rfl (by omega) rfl (by omega)).mono ?_
  rintro e w4 ⟨BA, bc, WA, wc, OA, oc, rfl, hb4⟩
  rw [show y + 128 - 128 = y by omega]
  have hd0 := hb4.cell (p := ⟨g3, 0, none⟩) hlt
  have hd1 := hb4.cell (p := ⟨g3, 1, none⟩) hlt
  rw [hc0] at hd0
  rw [hc1] at hd1
  have hlt4 : g3 < w4.heap.size := by have := hb4.size; omega
  have HB4 := Lib.hid (HB3.out.trans (hb4.mono HB3.out.size))
  clear hb4
  go_wp2_with fail
  go_ret
  exact ⟨rfl, HB4.out.alloc HB4.out.size _⟩

theorem walk (a0 a1 : Int) (a2 : Bool) (w0 : (Lit.int .i64 a0).wf = true) (w1 : (Lit.int .i64 a1).wf = true) (w : World) :
    Calls Try.prog 13 #[.int .i64 a0, .int .i64 a1, .bool a2] w fun e w' => e = .returned (.bool true) ∧ Below w.heap.size w w' := by
  obtain ⟨h00, h01⟩ := bounds_i64 w0
  obtain ⟨h10, h11⟩ := bounds_i64 w1
  cases a2
  · by_cases h0 : a1 = 0
    · exact fails_nought_raw a0 a1 w h0
    by_cases hn : (0 ≤ a0 ∧ a0 ≤ 255) ∧ ((1 ≤ a1 ∧ a1 ≤ 4) ∨ a1 = 6)
    · obtain ⟨hf, hx⟩ := hn
      have hx' : a1 = 1 ∨ a1 = 2 ∨ a1 = 3 ∨ a1 = 4 ∨ a1 = 6 := by omega
      rcases hx' with rfl | rfl | rfl | rfl | rfl
      · exact fails_fine1_raw a0 w hf.1 hf.2
      · exact fails_fine2_raw a0 w hf.1 hf.2
      · exact fails_fine3_raw a0 w hf.1 hf.2
      · exact fails_fine4_raw a0 w hf.1 hf.2
      · exact fails_fine6_raw a0 w hf.1 hf.2
    · exact fails_bad_raw a0 a1 w h0 (by omega)
  · by_cases h0 : a1 % 9 = 0
    · exact fails_nought_near a0 a1 _ _ rfl rfl h00 h01 h10 h11 w h0
    by_cases hn : (0 ≤ a0 % 256 ∧ a0 % 256 ≤ 255) ∧ ((1 ≤ a1 % 9 ∧ a1 % 9 ≤ 4) ∨ a1 % 9 = 6)
    · obtain ⟨hf, hx⟩ := hn
      have hx' : a1 % 9 = 1 ∨ a1 % 9 = 2 ∨ a1 % 9 = 3 ∨ a1 % 9 = 4 ∨ a1 % 9 = 6 := by omega
      rcases hx' with hx' | hx' | hx' | hx' | hx'
      · exact fails_fine1_near a0 a1 _ rfl hx' h00 h01 h10 h11 w hf.1 hf.2
      · exact fails_fine2_near a0 a1 _ rfl hx' h00 h01 h10 h11 w hf.1 hf.2
      · exact fails_fine3_near a0 a1 _ rfl hx' h00 h01 h10 h11 w hf.1 hf.2
      · exact fails_fine4_near a0 a1 _ rfl hx' h00 h01 h10 h11 w hf.1 hf.2
      · exact fails_fine6_near a0 a1 _ rfl hx' h00 h01 h10 h11 w hf.1 hf.2
    · exact fails_bad_near a0 a1 _ _ rfl rfl h00 h01 h10 h11 w h0 (by omega)

/-! ### THE ROW's STEP: WRITTEN OUT: LEAVE IT -/
set_option maxRecDepth 100000 in
theorem lifted (os : Os) (started : os.Started) (H : Type) (enc : TypeId × Value → H) :
    ReturnsInHanded {} Try.checked os 13 .any (Rows.tellFailsSpec.pre6 enc Try.prog Try.f13 Rows.tellFailsRow.domain false) (Rows.tellFailsSpec.post enc Try.prog Try.f13 false true false false) := by
  refine returnsInHanded_of_change (C := Try.checked) own started (by kernel_rfl) Try.func13
    (ChangeSpec.witness6 (enc := enc) (C := Try.checked) false ⟨#[], #[.int .i64 0, .int .i64 0, .bool false], []⟩ 8 (by kernel_rfl) (by kernel_rfl) (by kernel_rfl) (by kernel_rfl)) ?_
  intro W base args ds gs before hval0 hW hcnd _
  have hval : ∀ (j : Nat) t v, Try.f13.params[j]? = some t → args[j]? = some v → Value.okWide Try.prog W .any base t v := hval0
  have hW' := hW
  obtain ⟨p, q, hA0, hV, rfl, hfz, hnd⟩ := hW
  have hA : DataW.TrodAll enc Try.prog W 0 (fun _ => true) true Try.f13.params.toList args.toList ds p := hA0
  rw [Try.params13] at hA hval
  obtain ⟨v0, vs0, d0, ds0, p0, q0, hargs, rfl, rfl, h0, r0⟩ := trodAll_cons hA
  obtain ⟨v1, vs1, d1, ds1, p1, q1, rfl, rfl, rfl, h1, r1⟩ := trodAll_cons r0
  obtain ⟨v2, vs2, d2, ds2, p2, q2, rfl, rfl, rfl, h2, r2⟩ := trodAll_cons r1
  obtain ⟨rfl, rfl, rfl⟩ := trodAll_nil r2
  obtain rfl : args = #[v0, v1, v2] := by cases args; simp_all
  obtain ⟨rfl, rfl⟩ := trodVars_none hV
  obtain ⟨a0, rfl, rfl, rfl, w0⟩ := open_int Try.underlying3 (hval 0 3 v0 rfl rfl) h0
  obtain ⟨a1, rfl, rfl, rfl, w1⟩ := open_int Try.underlying3 (hval 1 3 v1 rfl rfl) h1
  obtain ⟨a2, rfl, rfl, rfl⟩ := open_bool Try.underlying4 (hval 2 4 v2 rfl rfl) h2
  clear hA0 hval0
  simp only [List.append_nil] at hW'
  refine (walk a0 a1 a2 w0 w1 W).mono fun e W' ⟨he, bel⟩ => ?_
  subst he
  exact ⟨_, rfl, _, _, _, [], _, [], hW', trodAll_mk1 (shut_bool Try.underlying4 _), (trodAll_cons_mk (shut_int Try.underlying3 w0) (trodAll_cons_mk (shut_int Try.underlying3 w1) (trodAll_cons_mk (shut_bool Try.underlying4 _) trodAll_mk0))), rfl, bel.frame _, fun h => by cases h⟩

theorem over : Rows.tellFailsRow.holds Try.pinned (OpenSpec.ofChange Rows.tellFailsSpec) :=
  OpenClaim.holds_of_wide 13 Try.f13 rfl rfl rfl rfl rfl rfl rfl ⟨rfl, rfl, rfl, rfl, rfl⟩ rfl rfl rfl rfl rfl (by kernel_rfl) Try.func13 (by kernel_rfl)
    (of_decide_eq_true (by kernel_rfl)) (by unfold Func.isWrapper; first | (rw [if_pos (by decide +kernel)]; kernel_rfl) | (rw [if_neg (by decide +kernel)]; exact ⟨rfl, rfl⟩))
    (fun os started H enc _ => lifted os started H enc)

/-- ████ THE STATEMENT ████ -/
theorem proved : Rows.TellFailsSaid :=
  over
#print axioms proved
end Go.Proofs.Ytijfeffjjcbijaa.tellFails

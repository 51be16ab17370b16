/- Joined: RSame PBytesE RBytesE. -/
import Derived.Test.YtijfeffjjcbijaaAskSame
import Derived.Test.YtijfeffjjcbijaaTSpec
import Derived.Test.YtijfeffjjcbijaaPTell4
import Derived.Test.YtijfeffjjcbijaaPBytes
import Derived.Test.YtijfeffjjcbijaaAskBytes
namespace Go.Proofs.Ytijfeffjjcbijaa
open Go.ChangeShapes Go.WideShapes Go.ChangeAt Go.RowKit
set_option linter.unusedVariables false
set_option linter.unusedSimpArgs false

set_option maxRecDepth 100000 in
set_option maxHeartbeats 1000000 in
theorem sametell_bare (fn ex at_ n v an orr : Int) (w : World) :
    Calls Try.prog 47 #[.agg #[.int .i64 fn, .int .i64 ex, .slice none 0 0, .slice none 0 0, .int .i64 at_, .int .i64 n, .int .u16 v, .int .u16 an, .int .u16 orr, .int .i64 0, .int .i64 0, .bool false, .int .i64 0, .slice none 0 0], .agg #[.int .i64 fn, .int .i64 ex, .slice none 0 0, .slice none 0 0, .int .i64 at_, .int .i64 n, .int .u16 v, .int .u16 an, .int .u16 orr, .int .i64 0, .int .i64 0, .bool false, .int .i64 0, .slice none 0 0]] w fun e w' => e = .returned (.bool true) ∧ Below w.heap.size w w' := by
  go_enter Try.func47, Try.ntmps47
  go_wp2_with fail
  go_loopw [5] (fun i wr => i = .int .i64 0 ∧ ((w.alloc (.cells #[.int .i64 fn, .int .i64 ex, .slice none 0 0, .slice none 0 0, .int .i64 at_, .int .i64 n, .int .u16 v, .int .u16 an, .int .u16 orr, .int .i64 0, .int .i64 0, .bool false, .int .i64 0, .slice none 0 0] 64)).alloc (.cells #[.int .i64 fn, .int .i64 ex, .slice none 0 0, .slice none 0 0, .int .i64 at_, .int .i64 n, .int .u16 v, .int .u16 an, .int .u16 orr, .int .i64 0, .int .i64 0, .bool false, .int .i64 0, .slice none 0 0] 64)) = wr) (fun _ _ => 0)
  case atStart => exact ⟨rfl, rfl⟩
  case round =>
    obtain ⟨rfl, rfl⟩ := hrel
    go_wp2_with (first
      | (go_at_call 64; (with_reducible refine (samebits5_yes none none 0 0 0 [] _ BRow.nil BRow.nil (by omega)).mono ?_); rintro e w' ⟨rfl, d1, rfl⟩)
      | (go_at_call 65; (with_reducible refine (samewords_yes none none 0 0 0 [] _ (Row.nil _ _ _ _) (Row.nil _ _ _ _) (by omega)).mono ?_); rintro e w' ⟨rfl, d2, rfl⟩))
    go_ret
    exact ⟨rfl, below_drewN (((Below.refl _ _).alloc (Nat.le_refl _) _).alloc (by simp) _) _⟩

set_option maxRecDepth 100000 in
set_option maxHeartbeats 1000000 in
theorem pbT_5 (at_ n v an orr : Int) (w : World) (hw : WideT at_ n v an orr 0 0 0) (h : tellP 5 0 0 0 at_ n v an orr 0 0 0 0 0 1) :
    Calls Try.prog 38 #[.agg #[.int .i64 5, .int .i64 0, .slice none 0 0, .slice none 0 0, .int .i64 at_, .int .i64 n, .int .u16 v, .int .u16 an, .int .u16 orr, .int .i64 0, .int .i64 0, .bool false, .int .i64 0, .slice none 0 0]] w fun e w' => ∃ g, e = .returned (.tuple #[.slice (some ⟨g, 0, none⟩) 5 5, .int .i64 0]) ∧ Whole .u8 w' g 5 [5, at_ / 256, at_ % 256, (v * 65280) / 256, (v * 65280) % 256] ∧ w.heap.size ≤ g ∧ Below w.heap.size w w' := by
  have hq := tell_nought.1 h
  obtain ⟨_, ⟨a0, a1⟩, hra, hre⟩ := hq
  unfold rangT at hra
  unfold restT at hre
  have hm2 : kMostW 15 = 1968 := rfl
  have hm3 : kMostW 16 = 123 := rfl
  have v0 := hw.v0
  have v1 : v ≤ 1 := by omega
  have d0 := hw.d0
  have d1 := hw.d1
  have o0 := hw.o0
  have o1 := hw.o1
  clear hra hre hm2 hm3
  have HWo : Hid (Words [at_, v * 65280]) := by intro x hx; simp only [List.mem_cons, List.not_mem_nil, or_false] at hx; rcases hx with h | h <;> omega
  have HP := Lib.hid (decide_eq_true h)
  have HW := Lib.hid hw
  clear h hw
  go_enter Try.func38, Try.ntmps38
  go_wp2_with fail
  refine (ptr_any 5 0 0 0 at_ n v an orr 0 0 false 0 0 none none none 0 0 0 _ true true HW.out (fits_nil _ _ _) HP.out).mono ?_
  rintro e w4 ⟨rfl, hb4⟩
  have HB4 : Hid (Below w.heap.size w w4) := ((Below.refl _ _).alloc (Nat.le_refl _) _).trans (hb4.mono (by simp))
  have hk4 : Below (w.heap.size + 1) (w.alloc (.cells #[.int .i64 5, .int .i64 0, .slice none 0 0, .slice none 0 0, .int .i64 at_, .int .i64 n, .int .u16 v, .int .u16 an, .int .u16 orr, .int .i64 0, .int .i64 0, .bool false, .int .i64 0, .slice none 0 0] 64)) w4 := by
    rwa [show (w.alloc (.cells #[.int .i64 5, .int .i64 0, .slice none 0 0, .slice none 0 0, .int .i64 at_, .int .i64 n, .int .u16 v, .int .u16 an, .int .u16 orr, .int .i64 0, .int .i64 0, .bool false, .int .i64 0, .slice none 0 0] 64)).heap.size = w.heap.size + 1 by simp] at hb4
  have hbx := box14 _ _ _ _ _ _ _ _ _ _ _ _ _ _ _ w w4 hk4
  have hz4 : w.heap.size < w4.heap.size := hbx.lt
  obtain ⟨hc0, hc1, hc2, hc3, hc4, hc5, hc6, hc7, hc8, hc9, hc10, hc11, hc12, hc13⟩ := cells14 hbx
  have hf6 := hbx.frozen 6
  clear hb4 hk4 hbx
  go_wp2_with fail
  obtain ⟨X0, hX0⟩ : ∃ X0, w4.setCell ⟨w.heap.size, 6, none⟩ (.int .u16 (v * 65280)) = X0 := ⟨_, rfl⟩
  have hs : w4.heap.size = X0.heap.size := by rw [← hX0]; simp
  have HBX : Hid (Below w.heap.size w X0) := by rw [← hX0]; exact HB4.out.setCell (p := ⟨w.heap.size, 6, none⟩) (Nat.le_refl _) _
  rw [hX0, hs]
  clear hX0
  have HRa : Hid (Row .u8 ((X0.alloc (.cells #[.int .u8 5] 5)).alloc (.cells #[.int .i64 at_, .int .i64 (v * 65280)] 3)) ((X0.alloc (.cells #[.int .u8 5] 5)).alloc (.cells #[.int .i64 at_, .int .i64 (v * 65280)] 3)).heap.size (some ⟨X0.heap.size, 0, none⟩) 1 [5]) := built_ints .u8 X0 _ [5] 5 ((Below.refl _ _).alloc (Nat.le_refl _) _)
  have HRb : Hid (Row .i64 ((X0.alloc (.cells #[.int .u8 5] 5)).alloc (.cells #[.int .i64 at_, .int .i64 (v * 65280)] 3)) ((X0.alloc (.cells #[.int .u8 5] 5)).alloc (.cells #[.int .i64 at_, .int .i64 (v * 65280)] 3)).heap.size (some ⟨X0.heap.size + 1, 0, none⟩) 2 [at_, v * 65280]) := by
    have h := built_ints .i64 (X0.alloc (.cells #[.int .u8 5] 5)) _ [at_, v * 65280] 3 (Below.refl _ _)
    rwa [show (X0.alloc (.cells #[.int .u8 5] 5)).heap.size = X0.heap.size + 1 by simp] at h
  have HBe : Hid (Below w.heap.size w ((X0.alloc (.cells #[.int .u8 5] 5)).alloc (.cells #[.int .i64 at_, .int .i64 (v * 65280)] 3))) := (HBX.out.alloc HBX.out.size _).alloc (by have := HBX.out.size; simp; omega) _
  refine (pputI (some ⟨X0.heap.size, 0, none⟩) 1 1 [5] (some ⟨X0.heap.size + 1, 0, none⟩) 2 2 [at_, v * 65280] _ 5 [5, at_ / 256, at_ % 256, (v * 65280) / 256, (v * 65280) % 256] rfl rfl HRa.out HRb.out HWo.out (by omega) (by omega) (by omega)).mono ?_
  rintro e w7 ⟨g7, rfl, hw7, hg7, hb7⟩
  have HW7 := Lib.hid hw7
  have HB7 := Lib.hid (HBe.out.trans (hb7.mono HBe.out.size))
  have HG7 : Hid (w.heap.size ≤ g7) := Nat.le_trans HBe.out.size hg7
  clear hw7 hg7 hb7
  go_wp2_with fail
  go_ret2
  exact ⟨g7, rfl, HW7.out, HG7.out, HB7.out⟩

set_option maxRecDepth 100000 in
set_option maxHeartbeats 1000000 in
theorem pbT_6 (at_ n v an orr : Int) (w : World) (hw : WideT at_ n v an orr 0 0 0) (h : tellP 6 0 0 0 at_ n v an orr 0 0 0 0 0 1) :
    Calls Try.prog 38 #[.agg #[.int .i64 6, .int .i64 0, .slice none 0 0, .slice none 0 0, .int .i64 at_, .int .i64 n, .int .u16 v, .int .u16 an, .int .u16 orr, .int .i64 0, .int .i64 0, .bool false, .int .i64 0, .slice none 0 0]] w fun e w' => ∃ g, e = .returned (.tuple #[.slice (some ⟨g, 0, none⟩) 5 5, .int .i64 0]) ∧ Whole .u8 w' g 5 [6, at_ / 256, at_ % 256, v / 256, v % 256] ∧ w.heap.size ≤ g ∧ Below w.heap.size w w' := by
  have hq := tell_nought.1 h
  obtain ⟨_, ⟨a0, a1⟩, hra, hre⟩ := hq
  unfold rangT at hra
  unfold restT at hre
  have hm2 : kMostW 15 = 1968 := rfl
  have hm3 : kMostW 16 = 123 := rfl
  have v0 := hw.v0
  have v1 : v ≤ 65535 := hw.v1
  have d0 := hw.d0
  have d1 := hw.d1
  have o0 := hw.o0
  have o1 := hw.o1
  clear hra hre hm2 hm3
  have HWo : Hid (Words [at_, v]) := by intro x hx; simp only [List.mem_cons, List.not_mem_nil, or_false] at hx; rcases hx with h | h <;> omega
  have HP := Lib.hid (decide_eq_true h)
  have HW := Lib.hid hw
  clear h hw
  go_enter Try.func38, Try.ntmps38
  go_wp2_with fail
  refine (ptr_any 6 0 0 0 at_ n v an orr 0 0 false 0 0 none none none 0 0 0 _ true true HW.out (fits_nil _ _ _) HP.out).mono ?_
  rintro e w4 ⟨rfl, hb4⟩
  have HB4 : Hid (Below w.heap.size w w4) := ((Below.refl _ _).alloc (Nat.le_refl _) _).trans (hb4.mono (by simp))
  have hk4 : Below (w.heap.size + 1) (w.alloc (.cells #[.int .i64 6, .int .i64 0, .slice none 0 0, .slice none 0 0, .int .i64 at_, .int .i64 n, .int .u16 v, .int .u16 an, .int .u16 orr, .int .i64 0, .int .i64 0, .bool false, .int .i64 0, .slice none 0 0] 64)) w4 := by
    rwa [show (w.alloc (.cells #[.int .i64 6, .int .i64 0, .slice none 0 0, .slice none 0 0, .int .i64 at_, .int .i64 n, .int .u16 v, .int .u16 an, .int .u16 orr, .int .i64 0, .int .i64 0, .bool false, .int .i64 0, .slice none 0 0] 64)).heap.size = w.heap.size + 1 by simp] at hb4
  have hbx := box14 _ _ _ _ _ _ _ _ _ _ _ _ _ _ _ w w4 hk4
  have hz4 : w.heap.size < w4.heap.size := hbx.lt
  obtain ⟨hc0, hc1, hc2, hc3, hc4, hc5, hc6, hc7, hc8, hc9, hc10, hc11, hc12, hc13⟩ := cells14 hbx
  have hf6 := hbx.frozen 6
  clear hb4 hk4 hbx
  go_wp2_with fail
  have HBX := HB4
  have HRa : Hid (Row .u8 ((w4.alloc (.cells #[.int .u8 6] 5)).alloc (.cells #[.int .i64 at_, .int .i64 v] 3)) ((w4.alloc (.cells #[.int .u8 6] 5)).alloc (.cells #[.int .i64 at_, .int .i64 v] 3)).heap.size (some ⟨w4.heap.size, 0, none⟩) 1 [6]) := built_ints .u8 w4 _ [6] 5 ((Below.refl _ _).alloc (Nat.le_refl _) _)
  have HRb : Hid (Row .i64 ((w4.alloc (.cells #[.int .u8 6] 5)).alloc (.cells #[.int .i64 at_, .int .i64 v] 3)) ((w4.alloc (.cells #[.int .u8 6] 5)).alloc (.cells #[.int .i64 at_, .int .i64 v] 3)).heap.size (some ⟨w4.heap.size + 1, 0, none⟩) 2 [at_, v]) := by
    have h := built_ints .i64 (w4.alloc (.cells #[.int .u8 6] 5)) _ [at_, v] 3 (Below.refl _ _)
    rwa [show (w4.alloc (.cells #[.int .u8 6] 5)).heap.size = w4.heap.size + 1 by simp] at h
  have HBe : Hid (Below w.heap.size w ((w4.alloc (.cells #[.int .u8 6] 5)).alloc (.cells #[.int .i64 at_, .int .i64 v] 3))) := (HBX.out.alloc HBX.out.size _).alloc (by have := HBX.out.size; simp; omega) _
  refine (pputI (some ⟨w4.heap.size, 0, none⟩) 1 1 [6] (some ⟨w4.heap.size + 1, 0, none⟩) 2 2 [at_, v] _ 5 [6, at_ / 256, at_ % 256, v / 256, v % 256] rfl rfl HRa.out HRb.out HWo.out (by omega) (by omega) (by omega)).mono ?_
  rintro e w7 ⟨g7, rfl, hw7, hg7, hb7⟩
  have HW7 := Lib.hid hw7
  have HB7 := Lib.hid (HBe.out.trans (hb7.mono HBe.out.size))
  have HG7 : Hid (w.heap.size ≤ g7) := Nat.le_trans HBe.out.size hg7
  clear hw7 hg7 hb7
  go_wp2_with fail
  go_ret2
  exact ⟨g7, rfl, HW7.out, HG7.out, HB7.out⟩

set_option maxRecDepth 100000 in
set_option maxHeartbeats 1000000 in
theorem pbT_15 (at_ n v an orr : Int) (w : World) (hw : WideT at_ n v an orr 0 0 0) (h : tellP 15 0 0 0 at_ n v an orr 0 0 0 0 0 1) :
    Calls Try.prog 38 #[.agg #[.int .i64 15, .int .i64 0, .slice none 0 0, .slice none 0 0, .int .i64 at_, .int .i64 n, .int .u16 v, .int .u16 an, .int .u16 orr, .int .i64 0, .int .i64 0, .bool false, .int .i64 0, .slice none 0 0]] w fun e w' => ∃ g, e = .returned (.tuple #[.slice (some ⟨g, 0, none⟩) 5 5, .int .i64 0]) ∧ Whole .u8 w' g 5 [15, at_ / 256, at_ % 256, n / 256, n % 256] ∧ w.heap.size ≤ g ∧ Below w.heap.size w w' := by
  have hq := tell_nought.1 h
  obtain ⟨_, ⟨a0, a1⟩, hra, hre⟩ := hq
  unfold rangT at hra
  unfold restT at hre
  have hm2 : kMostW 15 = 1968 := rfl
  have hm3 : kMostW 16 = 123 := rfl
  have v0 := hw.v0
  have v1 : v ≤ 65535 := hw.v1
  have d0 := hw.d0
  have d1 := hw.d1
  have o0 := hw.o0
  have o1 := hw.o1
  have n0 : 1 ≤ n := by omega
  have n1 : n ≤ 1968 := by omega
  clear hra hre hm2 hm3
  have HWo : Hid (Words [at_, n]) := by intro x hx; simp only [List.mem_cons, List.not_mem_nil, or_false] at hx; rcases hx with h | h <;> omega
  have HP := Lib.hid (decide_eq_true h)
  have HW := Lib.hid hw
  clear h hw
  go_enter Try.func38, Try.ntmps38
  go_wp2_with fail
  refine (ptr_any 15 0 0 0 at_ n v an orr 0 0 false 0 0 none none none 0 0 0 _ true true HW.out (fits_nil _ _ _) HP.out).mono ?_
  rintro e w4 ⟨rfl, hb4⟩
  have HB4 : Hid (Below w.heap.size w w4) := ((Below.refl _ _).alloc (Nat.le_refl _) _).trans (hb4.mono (by simp))
  have hk4 : Below (w.heap.size + 1) (w.alloc (.cells #[.int .i64 15, .int .i64 0, .slice none 0 0, .slice none 0 0, .int .i64 at_, .int .i64 n, .int .u16 v, .int .u16 an, .int .u16 orr, .int .i64 0, .int .i64 0, .bool false, .int .i64 0, .slice none 0 0] 64)) w4 := by
    rwa [show (w.alloc (.cells #[.int .i64 15, .int .i64 0, .slice none 0 0, .slice none 0 0, .int .i64 at_, .int .i64 n, .int .u16 v, .int .u16 an, .int .u16 orr, .int .i64 0, .int .i64 0, .bool false, .int .i64 0, .slice none 0 0] 64)).heap.size = w.heap.size + 1 by simp] at hb4
  have hbx := box14 _ _ _ _ _ _ _ _ _ _ _ _ _ _ _ w w4 hk4
  have hz4 : w.heap.size < w4.heap.size := hbx.lt
  obtain ⟨hc0, hc1, hc2, hc3, hc4, hc5, hc6, hc7, hc8, hc9, hc10, hc11, hc12, hc13⟩ := cells14 hbx
  have hf6 := hbx.frozen 6
  clear hb4 hk4 hbx
  go_wp2_with fail
  have HBX := HB4
  have HRa : Hid (Row .u8 ((w4.alloc (.cells #[.int .u8 15] 5)).alloc (.cells #[.int .i64 at_, .int .i64 n] 3)) ((w4.alloc (.cells #[.int .u8 15] 5)).alloc (.cells #[.int .i64 at_, .int .i64 n] 3)).heap.size (some ⟨w4.heap.size, 0, none⟩) 1 [15]) := built_ints .u8 w4 _ [15] 5 ((Below.refl _ _).alloc (Nat.le_refl _) _)
  have HRb : Hid (Row .i64 ((w4.alloc (.cells #[.int .u8 15] 5)).alloc (.cells #[.int .i64 at_, .int .i64 n] 3)) ((w4.alloc (.cells #[.int .u8 15] 5)).alloc (.cells #[.int .i64 at_, .int .i64 n] 3)).heap.size (some ⟨w4.heap.size + 1, 0, none⟩) 2 [at_, n]) := by
    have h := built_ints .i64 (w4.alloc (.cells #[.int .u8 15] 5)) _ [at_, n] 3 (Below.refl _ _)
    rwa [show (w4.alloc (.cells #[.int .u8 15] 5)).heap.size = w4.heap.size + 1 by simp] at h
  have HBe : Hid (Below w.heap.size w ((w4.alloc (.cells #[.int .u8 15] 5)).alloc (.cells #[.int .i64 at_, .int .i64 n] 3))) := (HBX.out.alloc HBX.out.size _).alloc (by have := HBX.out.size; simp; omega) _
  refine (pputI (some ⟨w4.heap.size, 0, none⟩) 1 1 [15] (some ⟨w4.heap.size + 1, 0, none⟩) 2 2 [at_, n] _ 5 [15, at_ / 256, at_ % 256, n / 256, n % 256] rfl rfl HRa.out HRb.out HWo.out (by omega) (by omega) (by omega)).mono ?_
  rintro e w7 ⟨g7, rfl, hw7, hg7, hb7⟩
  have HW7 := Lib.hid hw7
  have HB7 := Lib.hid (HBe.out.trans (hb7.mono HBe.out.size))
  have HG7 : Hid (w.heap.size ≤ g7) := Nat.le_trans HBe.out.size hg7
  clear hw7 hg7 hb7
  go_wp2_with fail
  go_ret2
  exact ⟨g7, rfl, HW7.out, HG7.out, HB7.out⟩

set_option maxRecDepth 100000 in
set_option maxHeartbeats 1000000 in
theorem pbT_16 (at_ n v an orr : Int) (w : World) (hw : WideT at_ n v an orr 0 0 0) (h : tellP 16 0 0 0 at_ n v an orr 0 0 0 0 0 1) :
    Calls Try.prog 38 #[.agg #[.int .i64 16, .int .i64 0, .slice none 0 0, .slice none 0 0, .int .i64 at_, .int .i64 n, .int .u16 v, .int .u16 an, .int .u16 orr, .int .i64 0, .int .i64 0, .bool false, .int .i64 0, .slice none 0 0]] w fun e w' => ∃ g, e = .returned (.tuple #[.slice (some ⟨g, 0, none⟩) 5 5, .int .i64 0]) ∧ Whole .u8 w' g 5 [16, at_ / 256, at_ % 256, n / 256, n % 256] ∧ w.heap.size ≤ g ∧ Below w.heap.size w w' := by
  have hq := tell_nought.1 h
  obtain ⟨_, ⟨a0, a1⟩, hra, hre⟩ := hq
  unfold rangT at hra
  unfold restT at hre
  have hm2 : kMostW 15 = 1968 := rfl
  have hm3 : kMostW 16 = 123 := rfl
  have v0 := hw.v0
  have v1 : v ≤ 65535 := hw.v1
  have d0 := hw.d0
  have d1 := hw.d1
  have o0 := hw.o0
  have o1 := hw.o1
  have n0 : 1 ≤ n := by omega
  have n1 : n ≤ 1968 := by omega
  clear hra hre hm2 hm3
  have HWo : Hid (Words [at_, n]) := by intro x hx; simp only [List.mem_cons, List.not_mem_nil, or_false] at hx; rcases hx with h | h <;> omega
  have HP := Lib.hid (decide_eq_true h)
  have HW := Lib.hid hw
  clear h hw
  go_enter Try.func38, Try.ntmps38
  go_wp2_with fail
  refine (ptr_any 16 0 0 0 at_ n v an orr 0 0 false 0 0 none none none 0 0 0 _ true true HW.out (fits_nil _ _ _) HP.out).mono ?_
  rintro e w4 ⟨rfl, hb4⟩
  have HB4 : Hid (Below w.heap.size w w4) := ((Below.refl _ _).alloc (Nat.le_refl _) _).trans (hb4.mono (by simp))
  have hk4 : Below (w.heap.size + 1) (w.alloc (.cells #[.int .i64 16, .int .i64 0, .slice none 0 0, .slice none 0 0, .int .i64 at_, .int .i64 n, .int .u16 v, .int .u16 an, .int .u16 orr, .int .i64 0, .int .i64 0, .bool false, .int .i64 0, .slice none 0 0] 64)) w4 := by
    rwa [show (w.alloc (.cells #[.int .i64 16, .int .i64 0, .slice none 0 0, .slice none 0 0, .int .i64 at_, .int .i64 n, .int .u16 v, .int .u16 an, .int .u16 orr, .int .i64 0, .int .i64 0, .bool false, .int .i64 0, .slice none 0 0] 64)).heap.size = w.heap.size + 1 by simp] at hb4
  have hbx := box14 _ _ _ _ _ _ _ _ _ _ _ _ _ _ _ w w4 hk4
  have hz4 : w.heap.size < w4.heap.size := hbx.lt
  obtain ⟨hc0, hc1, hc2, hc3, hc4, hc5, hc6, hc7, hc8, hc9, hc10, hc11, hc12, hc13⟩ := cells14 hbx
  have hf6 := hbx.frozen 6
  clear hb4 hk4 hbx
  go_wp2_with fail
  have HBX := HB4
  have HRa : Hid (Row .u8 ((w4.alloc (.cells #[.int .u8 16] 5)).alloc (.cells #[.int .i64 at_, .int .i64 n] 3)) ((w4.alloc (.cells #[.int .u8 16] 5)).alloc (.cells #[.int .i64 at_, .int .i64 n] 3)).heap.size (some ⟨w4.heap.size, 0, none⟩) 1 [16]) := built_ints .u8 w4 _ [16] 5 ((Below.refl _ _).alloc (Nat.le_refl _) _)
  have HRb : Hid (Row .i64 ((w4.alloc (.cells #[.int .u8 16] 5)).alloc (.cells #[.int .i64 at_, .int .i64 n] 3)) ((w4.alloc (.cells #[.int .u8 16] 5)).alloc (.cells #[.int .i64 at_, .int .i64 n] 3)).heap.size (some ⟨w4.heap.size + 1, 0, none⟩) 2 [at_, n]) := by
    have h := built_ints .i64 (w4.alloc (.cells #[.int .u8 16] 5)) _ [at_, n] 3 (Below.refl _ _)
    rwa [show (w4.alloc (.cells #[.int .u8 16] 5)).heap.size = w4.heap.size + 1 by simp] at h
  have HBe : Hid (Below w.heap.size w ((w4.alloc (.cells #[.int .u8 16] 5)).alloc (.cells #[.int .i64 at_, .int .i64 n] 3))) := (HBX.out.alloc HBX.out.size _).alloc (by have := HBX.out.size; simp; omega) _
  refine (pputI (some ⟨w4.heap.size, 0, none⟩) 1 1 [16] (some ⟨w4.heap.size + 1, 0, none⟩) 2 2 [at_, n] _ 5 [16, at_ / 256, at_ % 256, n / 256, n % 256] rfl rfl HRa.out HRb.out HWo.out (by omega) (by omega) (by omega)).mono ?_
  rintro e w7 ⟨g7, rfl, hw7, hg7, hb7⟩
  have HW7 := Lib.hid hw7
  have HB7 := Lib.hid (HBe.out.trans (hb7.mono HBe.out.size))
  have HG7 : Hid (w.heap.size ≤ g7) := Nat.le_trans HBe.out.size hg7
  clear hw7 hg7 hb7
  go_wp2_with fail
  go_ret2
  exact ⟨g7, rfl, HW7.out, HG7.out, HB7.out⟩

set_option maxRecDepth 100000 in
set_option maxHeartbeats 1000000 in
theorem pbT_22 (at_ n v an orr : Int) (w : World) (hw : WideT at_ n v an orr 0 0 0) (h : tellP 22 0 0 0 at_ n v an orr 0 0 0 0 0 1) :
    Calls Try.prog 38 #[.agg #[.int .i64 22, .int .i64 0, .slice none 0 0, .slice none 0 0, .int .i64 at_, .int .i64 n, .int .u16 v, .int .u16 an, .int .u16 orr, .int .i64 0, .int .i64 0, .bool false, .int .i64 0, .slice none 0 0]] w fun e w' => ∃ g, e = .returned (.tuple #[.slice (some ⟨g, 0, none⟩) 7 7, .int .i64 0]) ∧ Whole .u8 w' g 5 [22, at_ / 256, at_ % 256, an / 256, an % 256, orr / 256, orr % 256] ∧ w.heap.size ≤ g ∧ Below w.heap.size w w' := by
  have hq := tell_nought.1 h
  obtain ⟨_, ⟨a0, a1⟩, hra, hre⟩ := hq
  unfold rangT at hra
  unfold restT at hre
  have hm2 : kMostW 15 = 1968 := rfl
  have hm3 : kMostW 16 = 123 := rfl
  have v0 := hw.v0
  have v1 : v ≤ 65535 := hw.v1
  have d0 := hw.d0
  have d1 := hw.d1
  have o0 := hw.o0
  have o1 := hw.o1
  clear hra hre hm2 hm3
  have HWo : Hid (Words [at_, an, orr]) := by intro x hx; simp only [List.mem_cons, List.not_mem_nil, or_false] at hx; rcases hx with h | h | h <;> omega
  have HP := Lib.hid (decide_eq_true h)
  have HW := Lib.hid hw
  clear h hw
  go_enter Try.func38, Try.ntmps38
  go_wp2_with fail
  refine (ptr_any 22 0 0 0 at_ n v an orr 0 0 false 0 0 none none none 0 0 0 _ true true HW.out (fits_nil _ _ _) HP.out).mono ?_
  rintro e w4 ⟨rfl, hb4⟩
  have HB4 : Hid (Below w.heap.size w w4) := ((Below.refl _ _).alloc (Nat.le_refl _) _).trans (hb4.mono (by simp))
  have hk4 : Below (w.heap.size + 1) (w.alloc (.cells #[.int .i64 22, .int .i64 0, .slice none 0 0, .slice none 0 0, .int .i64 at_, .int .i64 n, .int .u16 v, .int .u16 an, .int .u16 orr, .int .i64 0, .int .i64 0, .bool false, .int .i64 0, .slice none 0 0] 64)) w4 := by
    rwa [show (w.alloc (.cells #[.int .i64 22, .int .i64 0, .slice none 0 0, .slice none 0 0, .int .i64 at_, .int .i64 n, .int .u16 v, .int .u16 an, .int .u16 orr, .int .i64 0, .int .i64 0, .bool false, .int .i64 0, .slice none 0 0] 64)).heap.size = w.heap.size + 1 by simp] at hb4
  have hbx := box14 _ _ _ _ _ _ _ _ _ _ _ _ _ _ _ w w4 hk4
  have hz4 : w.heap.size < w4.heap.size := hbx.lt
  obtain ⟨hc0, hc1, hc2, hc3, hc4, hc5, hc6, hc7, hc8, hc9, hc10, hc11, hc12, hc13⟩ := cells14 hbx
  have hf6 := hbx.frozen 6
  clear hb4 hk4 hbx
  go_wp2_with fail
  have HBX := HB4
  have HRa : Hid (Row .u8 ((w4.alloc (.cells #[.int .u8 22] 5)).alloc (.cells #[.int .i64 at_, .int .i64 an, .int .i64 orr] 3)) ((w4.alloc (.cells #[.int .u8 22] 5)).alloc (.cells #[.int .i64 at_, .int .i64 an, .int .i64 orr] 3)).heap.size (some ⟨w4.heap.size, 0, none⟩) 1 [22]) := built_ints .u8 w4 _ [22] 5 ((Below.refl _ _).alloc (Nat.le_refl _) _)
  have HRb : Hid (Row .i64 ((w4.alloc (.cells #[.int .u8 22] 5)).alloc (.cells #[.int .i64 at_, .int .i64 an, .int .i64 orr] 3)) ((w4.alloc (.cells #[.int .u8 22] 5)).alloc (.cells #[.int .i64 at_, .int .i64 an, .int .i64 orr] 3)).heap.size (some ⟨w4.heap.size + 1, 0, none⟩) 3 [at_, an, orr]) := by
    have h := built_ints .i64 (w4.alloc (.cells #[.int .u8 22] 5)) _ [at_, an, orr] 3 (Below.refl _ _)
    rwa [show (w4.alloc (.cells #[.int .u8 22] 5)).heap.size = w4.heap.size + 1 by simp] at h
  have HBe : Hid (Below w.heap.size w ((w4.alloc (.cells #[.int .u8 22] 5)).alloc (.cells #[.int .i64 at_, .int .i64 an, .int .i64 orr] 3))) := (HBX.out.alloc HBX.out.size _).alloc (by have := HBX.out.size; simp; omega) _
  refine (pputI (some ⟨w4.heap.size, 0, none⟩) 1 1 [22] (some ⟨w4.heap.size + 1, 0, none⟩) 3 3 [at_, an, orr] _ 7 [22, at_ / 256, at_ % 256, an / 256, an % 256, orr / 256, orr % 256] rfl rfl HRa.out HRb.out HWo.out (by omega) (by omega) (by omega)).mono ?_
  rintro e w7 ⟨g7, rfl, hw7, hg7, hb7⟩
  have HW7 := Lib.hid hw7
  have HB7 := Lib.hid (HBe.out.trans (hb7.mono HBe.out.size))
  have HG7 : Hid (w.heap.size ≤ g7) := Nat.le_trans HBe.out.size hg7
  clear hw7 hg7 hb7
  go_wp2_with fail
  go_ret2
  exact ⟨g7, rfl, HW7.out, HG7.out, HB7.out⟩

theorem rwordsc (A : Option Addr) (n c : Nat) (zs : List Int) (B : Option Addr) (m d : Nat) (ws : List Int) (w : World) (hr : Row .u8 w w.heap.size A n zs) (hw : Row .u16 w w.heap.size B m ws) (hx : Words ws) (hn : n ≤ 1000) (hm : m ≤ 1000) (hc : n ≤ c) :
    Calls Try.prog 81 #[.slice A n c, .slice B m d] w fun e w' => ∃ C cap, e = .returned (.slice C (n + 2 * m) cap) ∧ n + 2 * m ≤ cap ∧ Row .u8 w' w'.heap.size C (n + 2 * m) (zs ++ flat ws) ∧ Below w.heap.size w w' := by
  have HR := Lib.hid hr
  have HW := Lib.hid hw
  have HX := Lib.hid hx
  have HN := Lib.hid hw.1
  clear hr hw hx
  go_enter Try.func81, Try.ntmps81
  go_wp2
  go_loopw [0, 5] (fun b i wr => ∃ (k : Nat) (C : Option Addr) (cc : Nat), k ≤ m ∧ i = .int .i64 (k : Int) ∧ b = .slice C (n + 2 * k) cc ∧ Hid (n + 2 * k ≤ cc) ∧ Hid (Row .u8 wr wr.heap.size C (n + 2 * k) (zs ++ flat (ws.take k))) ∧ Hid (Below w.heap.size w wr)) (fun _ i _ => m - (intOf i).toNat)
  case atStart =>
    refine ⟨0, A, c, by omega, rfl, rfl, hc, ?_, Below.refl _ _⟩
    have h := HR.out
    have e : zs ++ flat (ws.take 0) = zs := by simp [flat]
    show Row .u8 w w.heap.size A n _
    rw [e]
    exact h
  case round =>
    obtain ⟨k, C, cc, hk, rfl, rfl, HCC, HK, HB⟩ := hrel
    by_cases hlt : k < m
    · obtain ⟨b, off, rfl, hb, hcell⟩ := HW.out.2 (by omega)
      obtain ⟨z, hz⟩ : ∃ z, ws.getD k 0 = z := ⟨_, rfl⟩
      have hcl : wr.cell? ⟨b, off + k, none⟩ = some (.int .u16 z) := by rw [HB.out.cell hb, hcell k hlt, hz]
      have hbd := HX.out.at_ k
      change 0 ≤ ws.getD k 0 ∧ ws.getD k 0 ≤ 65535 at hbd
      rw [hz] at hbd
      have z0 := hbd.1
      have z1 := hbd.2
      have HT : Hid (zs ++ flat (ws.take k) ++ [z / 256, z % 256] = zs ++ flat (ws.take (k + 1))) := by
        rw [flat_take ws k (by rw [HN.out]; exact hlt), hz, List.append_assoc]; rfl
      have hi1 : (k : Int) < (m : Int) := by omega
      have hlen : n + 2 * k + 2 = n + 2 * (k + 1) := by omega
      have HLen := Lib.hid hlen
      clear hcell hz hbd hlen
      go_wp2_with (go_at_call 82; (with_reducible refine (two_on C (n + 2 * k) cc _ _ z _ _ _ HLen.out rfl HT.out HK.out.v z0 z1 (by omega)).mono ?_); rintro e w2 ⟨g2, c2, rfl, ho2, hb2⟩; have HO2 := Lib.hid ho2; have HB2 := Lib.hid hb2; clear ho2 hb2)
      go_roundw
      case rel => exact ⟨k + 1, some ⟨g2, 0, none⟩, c2, by omega, by go_num, rfl, own_cap HO2.out, (own_row HO2.out).ints, HB.out.trans (HB2.out.mono HB.out.size)⟩
      case measure => simp [intOf]; omega
    · obtain rfl : m = k := by omega
      go_wp2
      go_ret
      refine ⟨C, cc, rfl, HCC.out, ?_, HB.out⟩
      have h := HK.out
      rwa [List.take_of_length_le (by rw [HN.out]; omega)] at h

set_option maxRecDepth 100000 in
set_option maxHeartbeats 1000000 in
theorem rbytesc_5 (at_ n v an orr : Int) (bl wl : Nat) (ra rn co ob : Int) (BA WA : Option Addr) (bc wc : Nat) (w : World) (hrt : rightP 5 at_ n v an orr bl wl ra rn co ob) (v0 : 0 ≤ v) (v1 : v ≤ 65535) :
    Calls Try.prog 52 #[.agg #[.int .i64 5, .int .i64 at_, .int .i64 n, .int .u16 v, .int .u16 an, .int .u16 orr, .slice BA bl bc, .slice WA wl wc, .int .i64 ra, .int .i64 rn, .int .i64 co, .int .i64 ob]] w fun e w' => ∃ C cap, e = .returned (.tuple #[.slice C 5 cap, .int .i64 0]) ∧ 5 ≤ cap ∧ Row .u8 w' w'.heap.size C 5 [5, at_ / 256, at_ % 256, (v * 65280) / 256, (v * 65280) % 256] ∧ Below w.heap.size w w' := by
  have hrt0 := hrt
  obtain ⟨_, hpl, ⟨a0, a1⟩, ⟨r0, r1⟩, hfit⟩ := hrt0
  unfold plainP at hpl
  unfold fitsP at hfit
  have w1 : IntKind.i64.wrap v = v := IntWalk.i64_in _ (by omega)
  have w2 : IntKind.i64.wrap (v * 65280) = v * 65280 := IntWalk.i64_in _ (by omega)
  have m0 : 0 ≤ v * 65280 := by omega
  have m1 : v * 65280 ≤ 65535 := by omega
  clear hfit hpl
  have HRt := Lib.hid hrt
  clear hrt
  go_enter Try.func52, Try.ntmps52
  go_wp2_with (
       go_at_call 58
       refine (right_yes 5 at_ n v an orr bl wl ra rn co ob BA WA bc wc _ HRt.out).mono ?_
       rintro e w4 ⟨rfl, hb4⟩
       have HB4 : Hid (Below w.heap.size w w4) := ((Below.refl _ _).alloc (Nat.le_refl _) _).trans (hb4.mono (by simp))
       have hk4 : Below (w.heap.size + 1) (w.alloc (.cells #[.int .i64 5, .int .i64 at_, .int .i64 n, .int .u16 v, .int .u16 an, .int .u16 orr, .slice BA bl bc, .slice WA wl wc, .int .i64 ra, .int .i64 rn, .int .i64 co, .int .i64 ob] 26)) w4 := by
         rwa [show (w.alloc (.cells #[.int .i64 5, .int .i64 at_, .int .i64 n, .int .u16 v, .int .u16 an, .int .u16 orr, .slice BA bl bc, .slice WA wl wc, .int .i64 ra, .int .i64 rn, .int .i64 co, .int .i64 ob] 26)).heap.size = w.heap.size + 1 by simp] at hb4
       have hz4 : w.heap.size + 1 ≤ w4.heap.size := by have := hk4.size; simp at this; omega
       have HK4 := Lib.hid hk4
       obtain ⟨hc0, hc1, hc2, hc3, hc4, hc5, hc6, hc7, hc8, hc9, hc10, hc11⟩ := box12 _ _ _ _ _ _ _ _ _ _ _ _ _ w w4 hk4
       have hd0 : (w4.alloc (.cells #[.int .u8 5] 5)).cell? ⟨w.heap.size, 0, none⟩ = some (.int .i64 5) := (World.cell?_alloc_lt w4 _ ⟨w.heap.size, 0, none⟩ hz4).trans hc0
       clear hb4 hk4 hc1 hc2 hc3 hc4 hc5 hc6 hc7 hc8 hc9 hc10 hc11)
  obtain ⟨w5, hw5⟩ : ∃ w5, w4.alloc (.cells #[.int .u8 5] 5) = w5 := ⟨_, rfl⟩
  have hb5 : Below w4.heap.size w4 w5 := by rw [← hw5]; exact (Below.refl _ _).alloc (Nat.le_refl _) _
  have HB5 : Hid (Below w.heap.size w w5) := HB4.out.trans (hb5.mono HB4.out.size)
  have HK5 := Lib.hid (HK4.out.trans (hb5.mono hz4))
  have HZ5 : Hid (w.heap.size + 1 ≤ w5.heap.size) := Nat.le_trans hz4 hb5.size
  have HO5 : Hid (RowV w5 w5.heap.size (some ⟨w4.heap.size, 0, none⟩) 1 [.int .u8 5]) := by rw [← hw5]; exact built_row w4 _ [.int .u8 5] _ (Below.refl _ _)
  have KS : Hid (∀ W, Below w5.heap.size w5 W → W.cell? ⟨w.heap.size, 1, none⟩ = some (.int .i64 at_) ∧ W.cell? ⟨w.heap.size, 3, none⟩ = some (.int .u16 v) ∧ Below w5.heap.size w5 W) := by
    intro W hb
    obtain ⟨_, hc1, hc2, hc3, hc4, hc5, hc6, hc7, hc8, hc9, hc10, hc11⟩ := box12 _ _ _ _ _ _ _ _ _ _ _ _ _ w W (HK5.out.trans (hb.mono HZ5.out))
    exact ⟨hc1, hc3, hb⟩
  have KB : Hid (∀ W, (W.cell? ⟨w.heap.size, 1, none⟩ = some (.int .i64 at_) ∧ W.cell? ⟨w.heap.size, 3, none⟩ = some (.int .u16 v) ∧ Below w5.heap.size w5 W) → Below w5.heap.size w5 W) := fun W hs => hs.2.2
  have KT : Hid (∀ W W', (W.cell? ⟨w.heap.size, 1, none⟩ = some (.int .i64 at_) ∧ W.cell? ⟨w.heap.size, 3, none⟩ = some (.int .u16 v) ∧ Below w5.heap.size w5 W) → Below W.heap.size W W' → W'.cell? ⟨w.heap.size, 1, none⟩ = some (.int .i64 at_) ∧ W'.cell? ⟨w.heap.size, 3, none⟩ = some (.int .u16 v) ∧ Below w5.heap.size w5 W') := fun W W' hs hb => KS.out _ ((KB.out _ hs).trans (hb.mono (KB.out _ hs).size))
  rw [hw5]
  clear hw5 hb5
  go_region_held3 (fun W => W.cell? ⟨w.heap.size, 1, none⟩ = some (.int .i64 at_) ∧ W.cell? ⟨w.heap.size, 3, none⟩ = some (.int .u16 v) ∧ Below w5.heap.size w5 W)
    (first
      | exact KS.out _ (Below.refl _ _).drew
      | exact KT.out _ _ (by assumption) hb7
      | exact KT.out _ _ (by assumption) hb6
      | exact KT.out _ _ (by assumption) ((Below.refl _ _).alloc (Nat.le_refl _) _))
    (first
      | (go_at_call 82
         (with_reducible refine (two_on (some ⟨w4.heap.size, 0, none⟩) 1 1 _ [5] at_ _ 3 [5, at_ / 256, at_ % 256] rfl rfl rfl ?_ a0 a1 (by omega)).mono ?_)
         · first | exact HO5.out | exact (HO5.out.below (KB.out _ (by assumption))).more (KB.out _ (by assumption)).size
         have hz6 := (KB.out _ (by assumption)).size
         rintro e w6 ⟨g6, c6, rfl, ho6, hb6⟩)
      | (go_at_call 82
         (with_reducible refine (two_on (some ⟨g6, 0, none⟩) 3 c6 _ [5, at_ / 256, at_ % 256] (v * 65280) _ 5 [5, at_ / 256, at_ % 256, (v * 65280) / 256, (v * 65280) % 256] rfl rfl rfl ?_ m0 m1 (by omega)).mono ?_)
         · first | exact own_row ho6 | exact own_row (ho6.alloc _)
         have hz7 := (KB.out _ (by assumption)).size
         rintro e w7 ⟨g7, c7, rfl, ho7, hb7⟩))
  all_goals
    go_wp2
    go_ret2
    exact ⟨_, _, rfl, own_cap ho7, (own_row ho7).ints, HB5.out.trans ((KB.out _ (by assumption)).mono HB5.out.size)⟩


set_option maxRecDepth 100000 in
set_option maxHeartbeats 1000000 in
theorem rbytesc_6 (at_ n v an orr : Int) (bl wl : Nat) (ra rn co ob : Int) (BA WA : Option Addr) (bc wc : Nat) (w : World) (hrt : rightP 6 at_ n v an orr bl wl ra rn co ob) (v0 : 0 ≤ v) (v1 : v ≤ 65535) :
    Calls Try.prog 52 #[.agg #[.int .i64 6, .int .i64 at_, .int .i64 n, .int .u16 v, .int .u16 an, .int .u16 orr, .slice BA bl bc, .slice WA wl wc, .int .i64 ra, .int .i64 rn, .int .i64 co, .int .i64 ob]] w fun e w' => ∃ C cap, e = .returned (.tuple #[.slice C 5 cap, .int .i64 0]) ∧ 5 ≤ cap ∧ Row .u8 w' w'.heap.size C 5 [6, at_ / 256, at_ % 256, v / 256, v % 256] ∧ Below w.heap.size w w' := by
  have hrt0 := hrt
  obtain ⟨_, hpl, ⟨a0, a1⟩, ⟨r0, r1⟩, hfit⟩ := hrt0
  unfold plainP at hpl
  unfold fitsP at hfit
  have w1 : IntKind.i64.wrap v = v := IntWalk.i64_in _ (by omega)
  clear hfit hpl
  have HRt := Lib.hid hrt
  clear hrt
  go_enter Try.func52, Try.ntmps52
  go_wp2_with (
       go_at_call 58
       refine (right_yes 6 at_ n v an orr bl wl ra rn co ob BA WA bc wc _ HRt.out).mono ?_
       rintro e w4 ⟨rfl, hb4⟩
       have HB4 : Hid (Below w.heap.size w w4) := ((Below.refl _ _).alloc (Nat.le_refl _) _).trans (hb4.mono (by simp))
       have hk4 : Below (w.heap.size + 1) (w.alloc (.cells #[.int .i64 6, .int .i64 at_, .int .i64 n, .int .u16 v, .int .u16 an, .int .u16 orr, .slice BA bl bc, .slice WA wl wc, .int .i64 ra, .int .i64 rn, .int .i64 co, .int .i64 ob] 26)) w4 := by
         rwa [show (w.alloc (.cells #[.int .i64 6, .int .i64 at_, .int .i64 n, .int .u16 v, .int .u16 an, .int .u16 orr, .slice BA bl bc, .slice WA wl wc, .int .i64 ra, .int .i64 rn, .int .i64 co, .int .i64 ob] 26)).heap.size = w.heap.size + 1 by simp] at hb4
       have hz4 : w.heap.size + 1 ≤ w4.heap.size := by have := hk4.size; simp at this; omega
       have HK4 := Lib.hid hk4
       obtain ⟨hc0, hc1, hc2, hc3, hc4, hc5, hc6, hc7, hc8, hc9, hc10, hc11⟩ := box12 _ _ _ _ _ _ _ _ _ _ _ _ _ w w4 hk4
       have hd0 : (w4.alloc (.cells #[.int .u8 6] 5)).cell? ⟨w.heap.size, 0, none⟩ = some (.int .i64 6) := (World.cell?_alloc_lt w4 _ ⟨w.heap.size, 0, none⟩ hz4).trans hc0
       clear hb4 hk4 hc1 hc2 hc3 hc4 hc5 hc6 hc7 hc8 hc9 hc10 hc11)
  obtain ⟨w5, hw5⟩ : ∃ w5, w4.alloc (.cells #[.int .u8 6] 5) = w5 := ⟨_, rfl⟩
  have hb5 : Below w4.heap.size w4 w5 := by rw [← hw5]; exact (Below.refl _ _).alloc (Nat.le_refl _) _
  have HB5 : Hid (Below w.heap.size w w5) := HB4.out.trans (hb5.mono HB4.out.size)
  have HK5 := Lib.hid (HK4.out.trans (hb5.mono hz4))
  have HZ5 : Hid (w.heap.size + 1 ≤ w5.heap.size) := Nat.le_trans hz4 hb5.size
  have HO5 : Hid (RowV w5 w5.heap.size (some ⟨w4.heap.size, 0, none⟩) 1 [.int .u8 6]) := by rw [← hw5]; exact built_row w4 _ [.int .u8 6] _ (Below.refl _ _)
  have KS : Hid (∀ W, Below w5.heap.size w5 W → W.cell? ⟨w.heap.size, 1, none⟩ = some (.int .i64 at_) ∧ W.cell? ⟨w.heap.size, 3, none⟩ = some (.int .u16 v) ∧ Below w5.heap.size w5 W) := by
    intro W hb
    obtain ⟨_, hc1, hc2, hc3, hc4, hc5, hc6, hc7, hc8, hc9, hc10, hc11⟩ := box12 _ _ _ _ _ _ _ _ _ _ _ _ _ w W (HK5.out.trans (hb.mono HZ5.out))
    exact ⟨hc1, hc3, hb⟩
  have KB : Hid (∀ W, (W.cell? ⟨w.heap.size, 1, none⟩ = some (.int .i64 at_) ∧ W.cell? ⟨w.heap.size, 3, none⟩ = some (.int .u16 v) ∧ Below w5.heap.size w5 W) → Below w5.heap.size w5 W) := fun W hs => hs.2.2
  have KT : Hid (∀ W W', (W.cell? ⟨w.heap.size, 1, none⟩ = some (.int .i64 at_) ∧ W.cell? ⟨w.heap.size, 3, none⟩ = some (.int .u16 v) ∧ Below w5.heap.size w5 W) → Below W.heap.size W W' → W'.cell? ⟨w.heap.size, 1, none⟩ = some (.int .i64 at_) ∧ W'.cell? ⟨w.heap.size, 3, none⟩ = some (.int .u16 v) ∧ Below w5.heap.size w5 W') := fun W W' hs hb => KS.out _ ((KB.out _ hs).trans (hb.mono (KB.out _ hs).size))
  rw [hw5]
  clear hw5 hb5
  go_region_held3 (fun W => W.cell? ⟨w.heap.size, 1, none⟩ = some (.int .i64 at_) ∧ W.cell? ⟨w.heap.size, 3, none⟩ = some (.int .u16 v) ∧ Below w5.heap.size w5 W)
    (first
      | exact KS.out _ (Below.refl _ _).drew
      | exact KT.out _ _ (by assumption) hb7
      | exact KT.out _ _ (by assumption) hb6
      | exact KT.out _ _ (by assumption) ((Below.refl _ _).alloc (Nat.le_refl _) _))
    (first
      | (go_at_call 82
         (with_reducible refine (two_on (some ⟨w4.heap.size, 0, none⟩) 1 1 _ [6] at_ _ 3 [6, at_ / 256, at_ % 256] rfl rfl rfl ?_ a0 a1 (by omega)).mono ?_)
         · first | exact HO5.out | exact (HO5.out.below (KB.out _ (by assumption))).more (KB.out _ (by assumption)).size
         have hz6 := (KB.out _ (by assumption)).size
         rintro e w6 ⟨g6, c6, rfl, ho6, hb6⟩)
      | (go_at_call 82
         (with_reducible refine (two_on (some ⟨g6, 0, none⟩) 3 c6 _ [6, at_ / 256, at_ % 256] v _ 5 [6, at_ / 256, at_ % 256, v / 256, v % 256] rfl rfl rfl ?_ v0 v1 (by omega)).mono ?_)
         · first | exact own_row ho6 | exact own_row (ho6.alloc _)
         have hz7 := (KB.out _ (by assumption)).size
         rintro e w7 ⟨g7, c7, rfl, ho7, hb7⟩))
  all_goals
    go_wp2
    go_ret2
    exact ⟨_, _, rfl, own_cap ho7, (own_row ho7).ints, HB5.out.trans ((KB.out _ (by assumption)).mono HB5.out.size)⟩


set_option maxRecDepth 100000 in
set_option maxHeartbeats 1000000 in
theorem rbytesc_22 (at_ n v an orr : Int) (bl wl : Nat) (ra rn co ob : Int) (BA WA : Option Addr) (bc wc : Nat) (w : World) (hrt : rightP 22 at_ n v an orr bl wl ra rn co ob) (x0 : 0 ≤ an) (x1 : an ≤ 65535) (y0 : 0 ≤ orr) (y1 : orr ≤ 65535) :
    Calls Try.prog 52 #[.agg #[.int .i64 22, .int .i64 at_, .int .i64 n, .int .u16 v, .int .u16 an, .int .u16 orr, .slice BA bl bc, .slice WA wl wc, .int .i64 ra, .int .i64 rn, .int .i64 co, .int .i64 ob]] w fun e w' => ∃ C cap, e = .returned (.tuple #[.slice C 7 cap, .int .i64 0]) ∧ 7 ≤ cap ∧ Row .u8 w' w'.heap.size C 7 [22, at_ / 256, at_ % 256, an / 256, an % 256, orr / 256, orr % 256] ∧ Below w.heap.size w w' := by
  have hrt0 := hrt
  obtain ⟨_, hpl, ⟨a0, a1⟩, ⟨r0, r1⟩, hfit⟩ := hrt0
  unfold plainP at hpl
  unfold fitsP at hfit
  have w1 : IntKind.i64.wrap an = an := IntWalk.i64_in _ (by omega)
  have w2 : IntKind.i64.wrap orr = orr := IntWalk.i64_in _ (by omega)
  clear hfit hpl
  have HRt := Lib.hid hrt
  clear hrt
  go_enter Try.func52, Try.ntmps52
  go_wp2_with (
       go_at_call 58
       refine (right_yes 22 at_ n v an orr bl wl ra rn co ob BA WA bc wc _ HRt.out).mono ?_
       rintro e w4 ⟨rfl, hb4⟩
       have HB4 : Hid (Below w.heap.size w w4) := ((Below.refl _ _).alloc (Nat.le_refl _) _).trans (hb4.mono (by simp))
       have hk4 : Below (w.heap.size + 1) (w.alloc (.cells #[.int .i64 22, .int .i64 at_, .int .i64 n, .int .u16 v, .int .u16 an, .int .u16 orr, .slice BA bl bc, .slice WA wl wc, .int .i64 ra, .int .i64 rn, .int .i64 co, .int .i64 ob] 26)) w4 := by
         rwa [show (w.alloc (.cells #[.int .i64 22, .int .i64 at_, .int .i64 n, .int .u16 v, .int .u16 an, .int .u16 orr, .slice BA bl bc, .slice WA wl wc, .int .i64 ra, .int .i64 rn, .int .i64 co, .int .i64 ob] 26)).heap.size = w.heap.size + 1 by simp] at hb4
       have hz4 : w.heap.size + 1 ≤ w4.heap.size := by have := hk4.size; simp at this; omega
       have HK4 := Lib.hid hk4
       obtain ⟨hc0, hc1, hc2, hc3, hc4, hc5, hc6, hc7, hc8, hc9, hc10, hc11⟩ := box12 _ _ _ _ _ _ _ _ _ _ _ _ _ w w4 hk4
       have hd0 : (w4.alloc (.cells #[.int .u8 22] 5)).cell? ⟨w.heap.size, 0, none⟩ = some (.int .i64 22) := (World.cell?_alloc_lt w4 _ ⟨w.heap.size, 0, none⟩ hz4).trans hc0
       clear hb4 hk4 hc1 hc2 hc3 hc4 hc5 hc6 hc7 hc8 hc9 hc10 hc11)
  obtain ⟨w5, hw5⟩ : ∃ w5, w4.alloc (.cells #[.int .u8 22] 5) = w5 := ⟨_, rfl⟩
  have hb5 : Below w4.heap.size w4 w5 := by rw [← hw5]; exact (Below.refl _ _).alloc (Nat.le_refl _) _
  have HB5 : Hid (Below w.heap.size w w5) := HB4.out.trans (hb5.mono HB4.out.size)
  have HK5 := Lib.hid (HK4.out.trans (hb5.mono hz4))
  have HZ5 : Hid (w.heap.size + 1 ≤ w5.heap.size) := Nat.le_trans hz4 hb5.size
  have HO5 : Hid (RowV w5 w5.heap.size (some ⟨w4.heap.size, 0, none⟩) 1 [.int .u8 22]) := by rw [← hw5]; exact built_row w4 _ [.int .u8 22] _ (Below.refl _ _)
  have KS : Hid (∀ W, Below w5.heap.size w5 W → W.cell? ⟨w.heap.size, 1, none⟩ = some (.int .i64 at_) ∧ W.cell? ⟨w.heap.size, 4, none⟩ = some (.int .u16 an) ∧ W.cell? ⟨w.heap.size, 5, none⟩ = some (.int .u16 orr) ∧ Below w5.heap.size w5 W) := by
    intro W hb
    obtain ⟨_, hc1, hc2, hc3, hc4, hc5, hc6, hc7, hc8, hc9, hc10, hc11⟩ := box12 _ _ _ _ _ _ _ _ _ _ _ _ _ w W (HK5.out.trans (hb.mono HZ5.out))
    exact ⟨hc1, hc4, hc5, hb⟩
  have KB : Hid (∀ W, (W.cell? ⟨w.heap.size, 1, none⟩ = some (.int .i64 at_) ∧ W.cell? ⟨w.heap.size, 4, none⟩ = some (.int .u16 an) ∧ W.cell? ⟨w.heap.size, 5, none⟩ = some (.int .u16 orr) ∧ Below w5.heap.size w5 W) → Below w5.heap.size w5 W) := fun W hs => hs.2.2.2
  have KT : Hid (∀ W W', (W.cell? ⟨w.heap.size, 1, none⟩ = some (.int .i64 at_) ∧ W.cell? ⟨w.heap.size, 4, none⟩ = some (.int .u16 an) ∧ W.cell? ⟨w.heap.size, 5, none⟩ = some (.int .u16 orr) ∧ Below w5.heap.size w5 W) → Below W.heap.size W W' → W'.cell? ⟨w.heap.size, 1, none⟩ = some (.int .i64 at_) ∧ W'.cell? ⟨w.heap.size, 4, none⟩ = some (.int .u16 an) ∧ W'.cell? ⟨w.heap.size, 5, none⟩ = some (.int .u16 orr) ∧ Below w5.heap.size w5 W') := fun W W' hs hb => KS.out _ ((KB.out _ hs).trans (hb.mono (KB.out _ hs).size))
  rw [hw5]
  clear hw5 hb5
  go_region_held3 (fun W => W.cell? ⟨w.heap.size, 1, none⟩ = some (.int .i64 at_) ∧ W.cell? ⟨w.heap.size, 4, none⟩ = some (.int .u16 an) ∧ W.cell? ⟨w.heap.size, 5, none⟩ = some (.int .u16 orr) ∧ Below w5.heap.size w5 W)
    (first
      | exact KS.out _ (Below.refl _ _).drew
      | exact KT.out _ _ (by assumption) hb8
      | exact KT.out _ _ (by assumption) hb7
      | exact KT.out _ _ (by assumption) hb6
      | exact KT.out _ _ (by assumption) ((Below.refl _ _).alloc (Nat.le_refl _) _))
    (first
      | (go_at_call 82
         (with_reducible refine (two_on (some ⟨w4.heap.size, 0, none⟩) 1 1 _ [22] at_ _ 3 [22, at_ / 256, at_ % 256] rfl rfl rfl ?_ a0 a1 (by omega)).mono ?_)
         · first | exact HO5.out | exact (HO5.out.below (KB.out _ (by assumption))).more (KB.out _ (by assumption)).size
         have hz6 := (KB.out _ (by assumption)).size
         rintro e w6 ⟨g6, c6, rfl, ho6, hb6⟩)
      | (go_at_call 82
         (with_reducible refine (two_on (some ⟨g6, 0, none⟩) 3 c6 _ [22, at_ / 256, at_ % 256] an _ 5 [22, at_ / 256, at_ % 256, an / 256, an % 256] rfl rfl rfl ?_ x0 x1 (by omega)).mono ?_)
         · first | exact own_row ho6 | exact own_row (ho6.alloc _)
         have hz7 := (KB.out _ (by assumption)).size
         rintro e w7 ⟨g7, c7, rfl, ho7, hb7⟩)
      | (go_at_call 82
         (with_reducible refine (two_on (some ⟨g7, 0, none⟩) 5 c7 _ [22, at_ / 256, at_ % 256, an / 256, an % 256] orr _ 7 [22, at_ / 256, at_ % 256, an / 256, an % 256, orr / 256, orr % 256] rfl rfl rfl ?_ y0 y1 (by omega)).mono ?_)
         · first | exact own_row ho7 | exact own_row (ho7.alloc _)
         have hz8 := (KB.out _ (by assumption)).size
         rintro e w8 ⟨g8, c8, rfl, ho8, hb8⟩))
  all_goals
    go_wp2
    go_ret2
    exact ⟨_, _, rfl, own_cap ho8, (own_row ho8).ints, HB5.out.trans ((KB.out _ (by assumption)).mono HB5.out.size)⟩


set_option maxRecDepth 100000 in
set_option maxHeartbeats 1000000 in
theorem rbytesc_15 (at_ v an orr : Int) (bl wl : Nat) (ra rn co ob : Int) (BA WA : Option Addr) (bc wc : Nat) (w : World) (hrt : rightP 15 at_ bl v an orr bl wl ra rn co ob) (bs : List Bool) (hbs : BRow w w.heap.size BA bl bs) :
    Calls Try.prog 52 #[.agg #[.int .i64 15, .int .i64 at_, .int .i64 (bl : Int), .int .u16 v, .int .u16 an, .int .u16 orr, .slice BA bl bc, .slice WA wl wc, .int .i64 ra, .int .i64 rn, .int .i64 co, .int .i64 ob]] w fun e w' => ∃ C cap, e = .returned (.tuple #[.slice C (6 + nb bl) cap, .int .i64 0]) ∧ (6 + nb bl) ≤ cap ∧ Row .u8 w' w'.heap.size C (6 + nb bl) ([15, at_ / 256, at_ % 256, (bl : Int) / 256, (bl : Int) % 256, ((nb bl : Nat) : Int)] ++ pk bs bl) ∧ Below w.heap.size w w' := by
  have hrt0 := hrt
  obtain ⟨_, hpl, ⟨a0, a1⟩, ⟨r0, r1⟩, hfit⟩ := hrt0
  unfold plainP at hpl
  unfold fitsP at hfit
  have hm : kMostW 15 = 1968 := rfl
  have n2 : bl ≤ 1968 := by omega
  have n0 : 0 ≤ (bl : Int) := by omega
  have n1 : (bl : Int) ≤ 65535 := by omega
  have hnb : nb bl ≤ 246 := by unfold nb; omega
  have hwb : IntKind.u8.wrap ((nb bl : Nat) : Int) = ((nb bl : Nat) : Int) := IntWalk.u8_in _ (by omega)
  have HBS := Lib.hid hbs
  clear hfit hpl hm hbs
  have HRt := Lib.hid hrt
  clear hrt
  go_enter Try.func52, Try.ntmps52
  go_wp2_with (
       go_at_call 58
       refine (right_yes 15 at_ bl v an orr bl wl ra rn co ob BA WA bc wc _ HRt.out).mono ?_
       rintro e w4 ⟨rfl, hb4⟩
       have HB4 : Hid (Below w.heap.size w w4) := ((Below.refl _ _).alloc (Nat.le_refl _) _).trans (hb4.mono (by simp))
       have hk4 : Below (w.heap.size + 1) (w.alloc (.cells #[.int .i64 15, .int .i64 at_, .int .i64 (bl : Int), .int .u16 v, .int .u16 an, .int .u16 orr, .slice BA bl bc, .slice WA wl wc, .int .i64 ra, .int .i64 rn, .int .i64 co, .int .i64 ob] 26)) w4 := by
         rwa [show (w.alloc (.cells #[.int .i64 15, .int .i64 at_, .int .i64 (bl : Int), .int .u16 v, .int .u16 an, .int .u16 orr, .slice BA bl bc, .slice WA wl wc, .int .i64 ra, .int .i64 rn, .int .i64 co, .int .i64 ob] 26)).heap.size = w.heap.size + 1 by simp] at hb4
       have hz4 : w.heap.size + 1 ≤ w4.heap.size := by have := hk4.size; simp at this; omega
       have HK4 := Lib.hid hk4
       obtain ⟨hc0, hc1, hc2, hc3, hc4, hc5, hc6, hc7, hc8, hc9, hc10, hc11⟩ := box12 _ _ _ _ _ _ _ _ _ _ _ _ _ w w4 hk4
       have hd0 : (w4.alloc (.cells #[.int .u8 15] 5)).cell? ⟨w.heap.size, 0, none⟩ = some (.int .i64 15) := (World.cell?_alloc_lt w4 _ ⟨w.heap.size, 0, none⟩ hz4).trans hc0
       clear hb4 hk4 hc1 hc2 hc3 hc4 hc5 hc6 hc7 hc8 hc9 hc10 hc11)
  obtain ⟨w5, hw5⟩ : ∃ w5, w4.alloc (.cells #[.int .u8 15] 5) = w5 := ⟨_, rfl⟩
  have hb5 : Below w4.heap.size w4 w5 := by rw [← hw5]; exact (Below.refl _ _).alloc (Nat.le_refl _) _
  have HB5 : Hid (Below w.heap.size w w5) := HB4.out.trans (hb5.mono HB4.out.size)
  have HK5 := Lib.hid (HK4.out.trans (hb5.mono hz4))
  have HZ5 : Hid (w.heap.size + 1 ≤ w5.heap.size) := Nat.le_trans hz4 hb5.size
  have HO5 : Hid (RowV w5 w5.heap.size (some ⟨w4.heap.size, 0, none⟩) 1 [.int .u8 15]) := by rw [← hw5]; exact built_row w4 _ [.int .u8 15] _ (Below.refl _ _)
  have KS : Hid (∀ W, Below w5.heap.size w5 W → W.cell? ⟨w.heap.size, 1, none⟩ = some (.int .i64 at_) ∧ W.cell? ⟨w.heap.size, 2, none⟩ = some (.int .i64 (bl : Int)) ∧ Below w5.heap.size w5 W) := by
    intro W hb
    obtain ⟨_, hc1, hc2, hc3, hc4, hc5, hc6, hc7, hc8, hc9, hc10, hc11⟩ := box12 _ _ _ _ _ _ _ _ _ _ _ _ _ w W (HK5.out.trans (hb.mono HZ5.out))
    exact ⟨hc1, hc2, hb⟩
  have KB : Hid (∀ W, (W.cell? ⟨w.heap.size, 1, none⟩ = some (.int .i64 at_) ∧ W.cell? ⟨w.heap.size, 2, none⟩ = some (.int .i64 (bl : Int)) ∧ Below w5.heap.size w5 W) → Below w5.heap.size w5 W) := fun W hs => hs.2.2
  have KT : Hid (∀ W W', (W.cell? ⟨w.heap.size, 1, none⟩ = some (.int .i64 at_) ∧ W.cell? ⟨w.heap.size, 2, none⟩ = some (.int .i64 (bl : Int)) ∧ Below w5.heap.size w5 W) → Below W.heap.size W W' → W'.cell? ⟨w.heap.size, 1, none⟩ = some (.int .i64 at_) ∧ W'.cell? ⟨w.heap.size, 2, none⟩ = some (.int .i64 (bl : Int)) ∧ Below w5.heap.size w5 W') := fun W W' hs hb => KS.out _ ((KB.out _ hs).trans (hb.mono (KB.out _ hs).size))
  rw [hw5]
  clear hw5 hb5
  have HC6 : Hid (∀ W, Below w5.heap.size w5 W → W.cell? ⟨w.heap.size, 6, none⟩ = some (.slice BA bl bc)) := by
    intro W hb
    obtain ⟨_, hc1, hc2, hc3, hc4, hc5, hc6, _⟩ := box12 _ _ _ _ _ _ _ _ _ _ _ _ _ w W (HK5.out.trans (hb.mono HZ5.out))
    exact hc6
  go_region_held3 (fun W => W.cell? ⟨w.heap.size, 1, none⟩ = some (.int .i64 at_) ∧ W.cell? ⟨w.heap.size, 2, none⟩ = some (.int .i64 (bl : Int)) ∧ Below w5.heap.size w5 W)
    (first
      | exact KS.out _ (Below.refl _ _).drew
      | exact KT.out _ _ (by assumption) hb7
      | exact KT.out _ _ (by assumption) hb6
      | exact KT.out _ _ (by assumption) ((Below.refl _ _).alloc (Nat.le_refl _) _)
      | assumption
      | exact KS.out _ (below_append (KB.out _ (by assumption)) (own_mono ho7 hz7) hg8 (KB.out _ (by assumption)).size)
      | exact KS.out _ (below_append (KB.out _ (by assumption)) ((own_mono ho7 hz7).alloc _) hg8 (KB.out _ (by assumption)).size)
      | exact KS.out _ (below_append (KB.out _ (by assumption)) ((own_mono ho7 hz7).alloc _).drew hg8 (KB.out _ (by assumption)).size))
    (first
      | (refine step_append_to (.tmp 55) (.tmp 60) 33 w5.heap.size 5 (.int .u8 0) 1 Try.underlying33 info5 rfl (.slice (some ⟨g7, 0, none⟩) 5 c7) 5 ([15, at_ / 256, at_ % 256, (bl : Int) / 256, (bl : Int) % 256].map (Value.int .u8)) 1 [.int .u8 ((nb bl : Nat) : Int)] 6 ([15, at_ / 256, at_ % 256, (bl : Int) / 256, (bl : Int) % 256, ((nb bl : Nat) : Int)].map (Value.int .u8)) rfl rfl (by simp [Value.oneCell']) (by omega) (by omega) ?_ ?_ ?_ ?_ ?_
         · exact ⟨rfl, rfl, rfl⟩
         · first | exact own_mono ho7 hz7 | exact (own_mono ho7 hz7).alloc _ | exact ((own_mono ho7 hz7).alloc _).drew
         · first
             | exact ⟨_, _, rfl, built_row _ _ [.int .u8 ((nb bl : Nat) : Int)] _ (Below.refl _ _)⟩
             | exact ⟨_, _, rfl, built_row _ _ [.int .u8 ((nb bl : Nat) : Int)] _ (Below.refl _ _).drew⟩
             | exact ⟨_, _, rfl, built_row _ _ [.int .u8 ((nb bl : Nat) : Int)] _ hb7⟩
             | exact ⟨_, _, rfl, built_row _ _ [.int .u8 ((nb bl : Nat) : Int)] _ (hb6.trans ((hb7).mono hb6.size))⟩
             | exact ⟨_, _, rfl, built_row _ _ [.int .u8 ((nb bl : Nat) : Int)] _ (below_from (d := 1) (hb6.trans ((hb7).mono hb6.size)))⟩
         · exact (KB.out _ (by assumption)).size
         intro A8 c8 w8 ho8 hg8)
      | (go_at_call 95; refine (refbytes_nat bl _ (by omega)).mono ?_; rintro e w' ⟨rfl, rfl⟩)
      | (go_at_call 82
         (with_reducible refine (two_on (some ⟨w4.heap.size, 0, none⟩) 1 1 _ [15] at_ _ 3 [15, at_ / 256, at_ % 256] rfl rfl rfl ?_ a0 a1 (by omega)).mono ?_)
         · first | exact HO5.out | exact (HO5.out.below (KB.out _ (by assumption))).more (KB.out _ (by assumption)).size
         have hz6 := (KB.out _ (by assumption)).size
         rintro e w6 ⟨g6, c6, rfl, ho6, hb6⟩)
      | (go_at_call 82
         (with_reducible refine (two_on (some ⟨g6, 0, none⟩) 3 c6 _ [15, at_ / 256, at_ % 256] (bl : Int) _ 5 [15, at_ / 256, at_ % 256, (bl : Int) / 256, (bl : Int) % 256] rfl rfl rfl ?_ n0 n1 (by omega)).mono ?_)
         · first | exact own_row ho6 | exact own_row (ho6.alloc _)
         have hz7 := (KB.out _ (by assumption)).size
         rintro e w7 ⟨g7, c7, rfl, ho7, hb7⟩))
  all_goals
    have hk8 := KB.out _ (by assumption)
    have hc6 := HC6.out _ hk8
    have HB8 : Hid (Below w.heap.size w w8) := HB5.out.trans (hk8.mono HB5.out.size)
    have HO8 := Lib.hid (own_mono ho8 HB5.out.size)
    have HZ8 := Lib.hid hk8.size
    clear hk8 ho8
    go_wp2_with (first
      | (go_at_call 80
         refine (refpack_any BA bl bc bs _ ((HBS.out.below HB8.out).more HB8.out.size) (by omega)).mono ?_
         rintro e w9 ⟨rfl, hw9, hb9⟩
         have HO9 := Lib.hid (own_keep HO8.out hb9)
         have HB9 := Lib.hid (HB8.out.trans (hb9.mono HB8.out.size))
         have hr9 := hw9.row
         rw [pk_length, HBS.out.1] at hr9
         have HR9 := Lib.hid hr9
         clear hw9 hb9 hr9)
      | (at_builtin
         refine wpList_append_row _ (o := ⟨some 66, _, _, _, _, _⟩) rfl (.tmp 62) (.tmp 65) 33 rfl w.heap.size 5 (.int .u8 0) 1 Try.underlying33 info5 rfl (.slice A8 6 c8) 6 _ rfl HO9.out _ (some ⟨w8.heap.size, 0, none⟩) (nb bl) (nb bl) _ rfl HR9.out.v (one_cells _ _) (by omega) (by omega) HB9.out.size ?_
         intro v10 w10 hown hg hat
         obtain ⟨B10, c10, rfl⟩ := own_slice hown
         have HB10 := Lib.hid (below_append HB9.out HO9.out hg HB9.out.size)
         have HO10 := Lib.hid hown
         clear hown hg hat))
    go_ret2
    refine ⟨_, _, rfl, own_cap HO10.out, ?_, HB10.out⟩
    have h := own_row HO10.out
    rw [← List.map_append] at h
    exact h.ints


set_option maxRecDepth 100000 in
set_option maxHeartbeats 1000000 in
theorem rbytesc_16 (at_ v an orr : Int) (bl wl : Nat) (ra rn co ob : Int) (BA WA : Option Addr) (bc wc : Nat) (w : World) (hrt : rightP 16 at_ wl v an orr bl wl ra rn co ob) (ws : List Int) (hws : Row .u16 w w.heap.size WA wl ws) (hxw : Words ws) :
    Calls Try.prog 52 #[.agg #[.int .i64 16, .int .i64 at_, .int .i64 (wl : Int), .int .u16 v, .int .u16 an, .int .u16 orr, .slice BA bl bc, .slice WA wl wc, .int .i64 ra, .int .i64 rn, .int .i64 co, .int .i64 ob]] w fun e w' => ∃ C cap, e = .returned (.tuple #[.slice C (6 + 2 * wl) cap, .int .i64 0]) ∧ (6 + 2 * wl) ≤ cap ∧ Row .u8 w' w'.heap.size C (6 + 2 * wl) ([16, at_ / 256, at_ % 256, (wl : Int) / 256, (wl : Int) % 256, 2 * (wl : Int)] ++ flat ws) ∧ Below w.heap.size w w' := by
  have hrt0 := hrt
  obtain ⟨_, hpl, ⟨a0, a1⟩, ⟨r0, r1⟩, hfit⟩ := hrt0
  unfold plainP at hpl
  unfold fitsP at hfit
  have hm : kMostW 16 = 123 := rfl
  have hm2 : kMostR 16 = 0 := rfl
  have n2 : wl ≤ 123 := by omega
  have n0 : 0 ≤ (wl : Int) := by omega
  have n1 : (wl : Int) ≤ 65535 := by omega
  have hw1 : IntKind.i64.wrap (2 * (wl : Int)) = 2 * (wl : Int) := IntWalk.i64_in _ (by omega)
  have hw2 : IntKind.u8.wrap (2 * (wl : Int)) = 2 * (wl : Int) := IntWalk.u8_in _ (by omega)
  have HWS := Lib.hid hws
  have HXW := Lib.hid hxw
  clear hfit hpl hm hm2 hws hxw
  have HRt := Lib.hid hrt
  clear hrt
  go_enter Try.func52, Try.ntmps52
  go_wp2_with (
       go_at_call 58
       refine (right_yes 16 at_ wl v an orr bl wl ra rn co ob BA WA bc wc _ HRt.out).mono ?_
       rintro e w4 ⟨rfl, hb4⟩
       have HB4 : Hid (Below w.heap.size w w4) := ((Below.refl _ _).alloc (Nat.le_refl _) _).trans (hb4.mono (by simp))
       have hk4 : Below (w.heap.size + 1) (w.alloc (.cells #[.int .i64 16, .int .i64 at_, .int .i64 (wl : Int), .int .u16 v, .int .u16 an, .int .u16 orr, .slice BA bl bc, .slice WA wl wc, .int .i64 ra, .int .i64 rn, .int .i64 co, .int .i64 ob] 26)) w4 := by
         rwa [show (w.alloc (.cells #[.int .i64 16, .int .i64 at_, .int .i64 (wl : Int), .int .u16 v, .int .u16 an, .int .u16 orr, .slice BA bl bc, .slice WA wl wc, .int .i64 ra, .int .i64 rn, .int .i64 co, .int .i64 ob] 26)).heap.size = w.heap.size + 1 by simp] at hb4
       have hz4 : w.heap.size + 1 ≤ w4.heap.size := by have := hk4.size; simp at this; omega
       have HK4 := Lib.hid hk4
       obtain ⟨hc0, hc1, hc2, hc3, hc4, hc5, hc6, hc7, hc8, hc9, hc10, hc11⟩ := box12 _ _ _ _ _ _ _ _ _ _ _ _ _ w w4 hk4
       have hd0 : (w4.alloc (.cells #[.int .u8 16] 5)).cell? ⟨w.heap.size, 0, none⟩ = some (.int .i64 16) := (World.cell?_alloc_lt w4 _ ⟨w.heap.size, 0, none⟩ hz4).trans hc0
       clear hb4 hk4 hc1 hc2 hc3 hc4 hc5 hc6 hc7 hc8 hc9 hc10 hc11)
  obtain ⟨w5, hw5⟩ : ∃ w5, w4.alloc (.cells #[.int .u8 16] 5) = w5 := ⟨_, rfl⟩
  have hb5 : Below w4.heap.size w4 w5 := by rw [← hw5]; exact (Below.refl _ _).alloc (Nat.le_refl _) _
  have HB5 : Hid (Below w.heap.size w w5) := HB4.out.trans (hb5.mono HB4.out.size)
  have HK5 := Lib.hid (HK4.out.trans (hb5.mono hz4))
  have HZ5 : Hid (w.heap.size + 1 ≤ w5.heap.size) := Nat.le_trans hz4 hb5.size
  have HO5 : Hid (RowV w5 w5.heap.size (some ⟨w4.heap.size, 0, none⟩) 1 [.int .u8 16]) := by rw [← hw5]; exact built_row w4 _ [.int .u8 16] _ (Below.refl _ _)
  have KS : Hid (∀ W, Below w5.heap.size w5 W → W.cell? ⟨w.heap.size, 1, none⟩ = some (.int .i64 at_) ∧ W.cell? ⟨w.heap.size, 2, none⟩ = some (.int .i64 (wl : Int)) ∧ W.cell? ⟨w.heap.size, 7, none⟩ = some (.slice WA wl wc) ∧ Below w5.heap.size w5 W) := by
    intro W hb
    obtain ⟨_, hc1, hc2, hc3, hc4, hc5, hc6, hc7, hc8, hc9, hc10, hc11⟩ := box12 _ _ _ _ _ _ _ _ _ _ _ _ _ w W (HK5.out.trans (hb.mono HZ5.out))
    exact ⟨hc1, hc2, hc7, hb⟩
  have KB : Hid (∀ W, (W.cell? ⟨w.heap.size, 1, none⟩ = some (.int .i64 at_) ∧ W.cell? ⟨w.heap.size, 2, none⟩ = some (.int .i64 (wl : Int)) ∧ W.cell? ⟨w.heap.size, 7, none⟩ = some (.slice WA wl wc) ∧ Below w5.heap.size w5 W) → Below w5.heap.size w5 W) := fun W hs => hs.2.2.2
  have KT : Hid (∀ W W', (W.cell? ⟨w.heap.size, 1, none⟩ = some (.int .i64 at_) ∧ W.cell? ⟨w.heap.size, 2, none⟩ = some (.int .i64 (wl : Int)) ∧ W.cell? ⟨w.heap.size, 7, none⟩ = some (.slice WA wl wc) ∧ Below w5.heap.size w5 W) → Below W.heap.size W W' → W'.cell? ⟨w.heap.size, 1, none⟩ = some (.int .i64 at_) ∧ W'.cell? ⟨w.heap.size, 2, none⟩ = some (.int .i64 (wl : Int)) ∧ W'.cell? ⟨w.heap.size, 7, none⟩ = some (.slice WA wl wc) ∧ Below w5.heap.size w5 W') := fun W W' hs hb => KS.out _ ((KB.out _ hs).trans (hb.mono (KB.out _ hs).size))
  rw [hw5]
  clear hw5 hb5
  go_region_held3 (fun W => W.cell? ⟨w.heap.size, 1, none⟩ = some (.int .i64 at_) ∧ W.cell? ⟨w.heap.size, 2, none⟩ = some (.int .i64 (wl : Int)) ∧ W.cell? ⟨w.heap.size, 7, none⟩ = some (.slice WA wl wc) ∧ Below w5.heap.size w5 W)
    (first
      | exact KS.out _ (Below.refl _ _).drew
      | exact KT.out _ _ (by assumption) hb9
      | exact KT.out _ _ (by assumption) hb7
      | exact KT.out _ _ (by assumption) hb6
      | exact KT.out _ _ (by assumption) ((Below.refl _ _).alloc (Nat.le_refl _) _)
      | assumption
      | exact KS.out _ (below_append (KB.out _ (by assumption)) (own_mono ho7 hz7) hg8 (KB.out _ (by assumption)).size)
      | exact KS.out _ (below_append (KB.out _ (by assumption)) ((own_mono ho7 hz7).alloc _) hg8 (KB.out _ (by assumption)).size)
      | exact KS.out _ (below_append (KB.out _ (by assumption)) ((own_mono ho7 hz7).alloc _).drew hg8 (KB.out _ (by assumption)).size))
    (first
      | (refine step_append_to (.tmp 75) (.tmp 80) 33 w5.heap.size 5 (.int .u8 0) 1 Try.underlying33 info5 rfl (.slice (some ⟨g7, 0, none⟩) 5 c7) 5 ([16, at_ / 256, at_ % 256, (wl : Int) / 256, (wl : Int) % 256].map (Value.int .u8)) 1 [.int .u8 (2 * (wl : Int))] 6 ([16, at_ / 256, at_ % 256, (wl : Int) / 256, (wl : Int) % 256, 2 * (wl : Int)].map (Value.int .u8)) rfl rfl (by simp [Value.oneCell']) (by omega) (by omega) ?_ ?_ ?_ ?_ ?_
         · exact ⟨rfl, rfl, rfl⟩
         · first | exact own_mono ho7 hz7 | exact (own_mono ho7 hz7).alloc _ | exact ((own_mono ho7 hz7).alloc _).drew
         · first
             | exact ⟨_, _, rfl, built_row _ _ [.int .u8 (2 * (wl : Int))] _ (Below.refl _ _)⟩
             | exact ⟨_, _, rfl, built_row _ _ [.int .u8 (2 * (wl : Int))] _ (Below.refl _ _).drew⟩
             | exact ⟨_, _, rfl, built_row _ _ [.int .u8 (2 * (wl : Int))] _ hb7⟩
             | exact ⟨_, _, rfl, built_row _ _ [.int .u8 (2 * (wl : Int))] _ (hb6.trans ((hb7).mono hb6.size))⟩
             | exact ⟨_, _, rfl, built_row _ _ [.int .u8 (2 * (wl : Int))] _ (below_from (d := 1) (hb6.trans ((hb7).mono hb6.size)))⟩
         · exact (KB.out _ (by assumption)).size
         intro A8 c8 w8 ho8 hg8)
      | (go_at_call 81
         refine (rwordsc A8 6 c8 [16, at_ / 256, at_ % 256, (wl : Int) / 256, (wl : Int) % 256, 2 * (wl : Int)] WA wl wc ws _ (own_row ho8).ints ?_ HXW.out (by omega) (by omega) (own_cap ho8)).mono ?_
         · have hk := HB5.out.trans ((KB.out _ (by assumption)).mono HB5.out.size)
           exact (HWS.out.below hk).more hk.size
         rintro e w9 ⟨C9, c9, rfl, hc9, hr9, hb9⟩)
      | (go_at_call 82
         (with_reducible refine (two_on (some ⟨w4.heap.size, 0, none⟩) 1 1 _ [16] at_ _ 3 [16, at_ / 256, at_ % 256] rfl rfl rfl ?_ a0 a1 (by omega)).mono ?_)
         · first | exact HO5.out | exact (HO5.out.below (KB.out _ (by assumption))).more (KB.out _ (by assumption)).size
         have hz6 := (KB.out _ (by assumption)).size
         rintro e w6 ⟨g6, c6, rfl, ho6, hb6⟩)
      | (go_at_call 82
         (with_reducible refine (two_on (some ⟨g6, 0, none⟩) 3 c6 _ [16, at_ / 256, at_ % 256] (wl : Int) _ 5 [16, at_ / 256, at_ % 256, (wl : Int) / 256, (wl : Int) % 256] rfl rfl rfl ?_ n0 n1 (by omega)).mono ?_)
         · first | exact own_row ho6 | exact own_row (ho6.alloc _)
         have hz7 := (KB.out _ (by assumption)).size
         rintro e w7 ⟨g7, c7, rfl, ho7, hb7⟩))
  all_goals
    go_wp2
    go_ret2
    exact ⟨_, _, rfl, hc9, hr9, HB5.out.trans ((KB.out _ (by assumption)).mono HB5.out.size)⟩

end Go.Proofs.Ytijfeffjjcbijaa

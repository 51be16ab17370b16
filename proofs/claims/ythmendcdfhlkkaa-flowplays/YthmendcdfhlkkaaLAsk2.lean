/- A request by two numbers: busbarlaw0.Ask, of words. -/
import Derived.Test.YthmendcdfhlkkaaLAsk
import Derived.Test.YthmendcdfhlkkaaAskList2
namespace Go.Proofs.Ythmendcdfhlkkaa
open Go.ChangeShapes Go.WideShapes Go.ChangeAt Go.RowKit
set_option linter.unusedVariables false
set_option linter.unusedSimpArgs false


set_option maxRecDepth 100000 in
set_option maxHeartbeats 2000000 in
theorem lask_11a (k v : Int) (k0 : -9223372036854775808 ≤ k) (k1 : k ≤ 9223372036854775807) (v0 : -9223372036854775808 ≤ v) (v1 : v ≤ 9223372036854775807) (hq : k % 16 = 11) (h3' : ((k.tdiv 3840) % 12 = 0)) : AskIs k v := by
  obtain ⟨d1, hd1⟩ : ∃ z, (k.tdiv 16) % 40 = z := ⟨_, rfl⟩
  have d1l : 0 ≤ d1 := by omega
  have d1h : d1 < 40 := by omega
  have HD1 := Lib.hid hd1
  clear hd1
  obtain ⟨d2, hd2⟩ : ∃ z, (k.tdiv 640) % 6 = z := ⟨_, rfl⟩
  have d2l : 0 ≤ d2 := by omega
  have d2h : d2 < 6 := by omega
  have HD2 := Lib.hid hd2
  clear hd2
  obtain ⟨d3, hd3⟩ : ∃ z, (k.tdiv 3840) % 12 = z := ⟨_, rfl⟩
  have d3l : 0 ≤ d3 := by omega
  have d3h : d3 < 12 := by omega
  have HD3 := Lib.hid hd3
  have h3 : d3 = 0 := by rw [← hd3]; exact h3'
  clear h3'
  clear hd3
  obtain ⟨d4, hd4⟩ : ∃ z, (k.tdiv 46080) % 65536 = z := ⟨_, rfl⟩
  have d4l : 0 ≤ d4 := by omega
  have d4h : d4 < 65536 := by omega
  have HD4 := Lib.hid hd4
  clear hd4
  have HQ := Lib.hid hq
  clear hq
  all_goals
    refine ⟨16, d4, (1 + d2), 0, 0, 0, 0, (1 + d2).toNat, 0, 0, 0, 0, [], upW (v % 60000) (1 + d2).toNat, ⟨⟨rfl, by unfold plainP; omega, by omega, by omega, by have m1 : kMostR 16 = 0 := rfl; have m2 : kMostW 16 = 123 := rfl; unfold fitsP; omega⟩, wide_of (by omega) (by omega) (by omega) (by omega) (by omega) (by omega) (by omega) (by omega) (by omega), upW_words _ _ (by omega) (by omega) (by omega), rfl, upW_length _ _⟩, fun w => ?_⟩
    go_enter Try.func22, Try.ntmps22
    go_wp2_with (first
      | (go_at_call 28; (with_reducible refine (digit_lit k 16 40 _ _ HD1.out k0 k1 (by omega) (by omega) (by omega) (by omega)).mono ?_); rintro e w' ⟨rfl, rfl⟩)
      | (go_at_call 28; (with_reducible refine (digit_lit k 640 6 _ _ HD2.out k0 k1 (by omega) (by omega) (by omega) (by omega)).mono ?_); rintro e w' ⟨rfl, rfl⟩)
      | (go_at_call 28; (with_reducible refine (digit_lit k 3840 12 _ _ HD3.out k0 k1 (by omega) (by omega) (by omega) (by omega)).mono ?_); rintro e w' ⟨rfl, rfl⟩)
      | (go_at_call 28; (with_reducible refine (digit_lit k 46080 65536 _ _ HD4.out k0 k1 (by omega) (by omega) (by omega) (by omega)).mono ?_); rintro e w' ⟨rfl, rfl⟩)
      | (go_at_call 11; (with_reducible refine (within_lit k 16 _ _ HQ.out k0 k1 (by omega) (by omega)).mono ?_); rintro e w' ⟨rfl, rfl⟩)
      | (go_at_call 61
         (with_reducible refine (lwords_any v (1 + d2).toNat (1 + d2) _ (by omega) v0 v1 (by omega)).mono ?_)
         rintro e w5 ⟨B5, c5, rfl, ho5, hb5⟩
         have hs0 : (w.alloc (.cells #[.int .i64 0, .int .i64 0, .int .i64 0, .int .u16 0, .int .u16 0, .int .u16 0, .slice none 0 0, .slice none 0 0, .int .i64 0, .int .i64 0, .int .i64 0, .int .i64 0] 51)).heap.size = w.heap.size + 1 := by simp
         have hk0 : WholeV (w.alloc (.cells #[.int .i64 0, .int .i64 0, .int .i64 0, .int .u16 0, .int .u16 0, .int .u16 0, .slice none 0 0, .slice none 0 0, .int .i64 0, .int .i64 0, .int .i64 0, .int .i64 0] 51)) w.heap.size 51 [.int .i64 0, .int .i64 0, .int .i64 0, .int .u16 0, .int .u16 0, .int .u16 0, .slice none 0 0, .slice none 0 0, .int .i64 0, .int .i64 0, .int .i64 0, .int .i64 0] := heap_alloc_new w _
         have hk1 : WholeV ((w.alloc (.cells #[.int .i64 0, .int .i64 0, .int .i64 0, .int .u16 0, .int .u16 0, .int .u16 0, .slice none 0 0, .slice none 0 0, .int .i64 0, .int .i64 0, .int .i64 0, .int .i64 0] 51)).alloc (.cells #[.int .i64 0, .int .i64 d4, .int .i64 0, .int .u16 0, .int .u16 0, .int .u16 0, .slice none 0 0, .slice none 0 0, .int .i64 0, .int .i64 0, .int .i64 0, .int .i64 0] 51)) (w.heap.size + 1) 51 [.int .i64 0, .int .i64 d4, .int .i64 0, .int .u16 0, .int .u16 0, .int .u16 0, .slice none 0 0, .slice none 0 0, .int .i64 0, .int .i64 0, .int .i64 0, .int .i64 0] := by
           have h := heap_alloc_new (w.alloc (.cells #[.int .i64 0, .int .i64 0, .int .i64 0, .int .u16 0, .int .u16 0, .int .u16 0, .slice none 0 0, .slice none 0 0, .int .i64 0, .int .i64 0, .int .i64 0, .int .i64 0] 51)) (.cells #[.int .i64 0, .int .i64 d4, .int .i64 0, .int .u16 0, .int .u16 0, .int .u16 0, .slice none 0 0, .slice none 0 0, .int .i64 0, .int .i64 0, .int .i64 0, .int .i64 0] 51)
           rwa [hs0] at h
         have hk2 := hk0.below ((Below.refl _ _).alloc (Nat.le_refl _) (.cells #[.int .i64 0, .int .i64 d4, .int .i64 0, .int .u16 0, .int .u16 0, .int .u16 0, .slice none 0 0, .slice none 0 0, .int .i64 0, .int .i64 0, .int .i64 0, .int .i64 0] 51)) (by simp)
         have h1 := hk1.below hb5 hk1.lt
         have h0 := hk2.below hb5 hk2.lt
         have HB5 : Hid (Below w.heap.size w w5) := (((Below.refl _ _).alloc (Nat.le_refl _) _).alloc (by simp) _).trans (hb5.mono (by simp; omega))
         have HO5 : Hid (w5.ownsRow (w.heap.size + 2) 28 1 (.slice B5 (1 + d2).toNat c5) (1 + d2).toNat ((upW (v % 60000) (1 + d2).toNat).map (Value.int .u16))) := own_mono ho5 (by simp)
         obtain ⟨hq0, hq1, hq2, hq3, hq4, hq5, hq6, hq7, hq8, hq9, hq10, hq11⟩ := cells12 h1
         obtain ⟨hp0, hp1, hp2, hp3, hp4, hp5, hp6, hp7, hp8, hp9, hp10, hp11⟩ := cells12 h0
         have hf0 := h1.frozen 0
         have hg0 := h0.frozen 0
         have hf1 := h1.frozen 1
         have hg1 := h0.frozen 1
         have hf2 := h1.frozen 2
         have hg2 := h0.frozen 2
         have hf3 := h1.frozen 3
         have hg3 := h0.frozen 3
         have hf4 := h1.frozen 4
         have hg4 := h0.frozen 4
         have hf5 := h1.frozen 5
         have hg5 := h0.frozen 5
         have hf6 := h1.frozen 6
         have hg6 := h0.frozen 6
         have hf7 := h1.frozen 7
         have hg7 := h0.frozen 7
         have hf8 := h1.frozen 8
         have hg8 := h0.frozen 8
         have hf9 := h1.frozen 9
         have hg9 := h0.frozen 9
         have hf10 := h1.frozen 10
         have hg10 := h0.frozen 10
         have hf11 := h1.frozen 11
         have hg11 := h0.frozen 11
         have hz5 : w.heap.size + 2 ≤ w5.heap.size := h1.lt
         have HH1 := Lib.hid h1
         have HH0 := Lib.hid h0
         clear hs0 hk0 hk1 hk2 h1 h0 hb5 ho5))
    obtain ⟨X, hX⟩ : ∃ X, (((w5.setCell ⟨w.heap.size + 1, 0, none⟩ (.int .i64 16)).setCell ⟨w.heap.size + 1, 2, none⟩ (.int .i64 (1 + d2))).setCell ⟨w.heap.size + 1, 7, none⟩ (.slice B5 (1 + d2).toNat c5)) = X := ⟨_, rfl⟩
    have hx0 : WholeV X w.heap.size 51 [.int .i64 0, .int .i64 0, .int .i64 0, .int .u16 0, .int .u16 0, .int .u16 0, .slice none 0 0, .slice none 0 0, .int .i64 0, .int .i64 0, .int .i64 0, .int .i64 0] := by rw [← hX]; exact HH0.out.below ((((Below.refl (w.heap.size + 1) w5).setCell (p := ⟨w.heap.size + 1, 0, none⟩) (Nat.le_refl _) (.int .i64 16)).setCell (p := ⟨w.heap.size + 1, 2, none⟩) (Nat.le_refl _) (.int .i64 (1 + d2))).setCell (p := ⟨w.heap.size + 1, 7, none⟩) (Nat.le_refl _) (.slice B5 (1 + d2).toNat c5)) (Nat.lt_succ_self _)
    have hxb : Below w.heap.size w X := by rw [← hX]; exact (((HB5.out.setCell (p := ⟨w.heap.size + 1, 0, none⟩) (Nat.le_succ _) (.int .i64 16)).setCell (p := ⟨w.heap.size + 1, 2, none⟩) (Nat.le_succ _) (.int .i64 (1 + d2))).setCell (p := ⟨w.heap.size + 1, 7, none⟩) (Nat.le_succ _) (.slice B5 (1 + d2).toNat c5))
    have hox : X.ownsRow (w.heap.size + 2) 28 1 (.slice B5 (1 + d2).toNat c5) (1 + d2).toNat ((upW (v % 60000) (1 + d2).toNat).map (Value.int .u16)) := by rw [← hX]; exact (own_far (own_far (own_far HO5.out ⟨w.heap.size + 1, 0, none⟩ (Nat.lt_succ_self _) (.int .i64 16)) ⟨w.heap.size + 1, 2, none⟩ (Nat.lt_succ_self _) (.int .i64 (1 + d2))) ⟨w.heap.size + 1, 7, none⟩ (Nat.lt_succ_self _) (.slice B5 (1 + d2).toNat c5))
    rw [hX]
    obtain ⟨w9, hw9⟩ : ∃ w9, ((((((((((((X.setCell ⟨w.heap.size, 0, none⟩ (.int .i64 16)).setCell ⟨w.heap.size, 1, none⟩ (.int .i64 d4)).setCell ⟨w.heap.size, 2, none⟩ (.int .i64 (1 + d2))).setCell ⟨w.heap.size, 3, none⟩ (.int .u16 0)).setCell ⟨w.heap.size, 4, none⟩ (.int .u16 0)).setCell ⟨w.heap.size, 5, none⟩ (.int .u16 0)).setCell ⟨w.heap.size, 6, none⟩ (.slice none 0 0)).setCell ⟨w.heap.size, 7, none⟩ (.slice B5 (1 + d2).toNat c5)).setCell ⟨w.heap.size, 8, none⟩ (.int .i64 0)).setCell ⟨w.heap.size, 9, none⟩ (.int .i64 0)).setCell ⟨w.heap.size, 10, none⟩ (.int .i64 0)).setCell ⟨w.heap.size, 11, none⟩ (.int .i64 0)) = w9 := ⟨_, rfl⟩
    have hwh := all12 hx0 (.int .i64 16) (.int .i64 d4) (.int .i64 (1 + d2)) (.int .u16 0) (.int .u16 0) (.int .u16 0) (.slice none 0 0) (.slice B5 (1 + d2).toNat c5) (.int .i64 0) (.int .i64 0) (.int .i64 0) (.int .i64 0) rfl
    have hbb := bel12 hxb (.int .i64 16) (.int .i64 d4) (.int .i64 (1 + d2)) (.int .u16 0) (.int .u16 0) (.int .u16 0) (.slice none 0 0) (.slice B5 (1 + d2).toNat c5) (.int .i64 0) (.int .i64 0) (.int .i64 0) (.int .i64 0)
    have ho9 : w9.ownsRow (w.heap.size + 2) 28 1 (.slice B5 (1 + d2).toNat c5) (1 + d2).toNat ((upW (v % 60000) (1 + d2).toNat).map (Value.int .u16)) := by rw [← hw9]; exact (own_far (own_far (own_far (own_far (own_far (own_far (own_far (own_far (own_far (own_far (own_far (own_far hox ⟨w.heap.size, 0, none⟩ (Nat.lt_succ_of_lt (Nat.lt_succ_self _)) (.int .i64 16)) ⟨w.heap.size, 1, none⟩ (Nat.lt_succ_of_lt (Nat.lt_succ_self _)) (.int .i64 d4)) ⟨w.heap.size, 2, none⟩ (Nat.lt_succ_of_lt (Nat.lt_succ_self _)) (.int .i64 (1 + d2))) ⟨w.heap.size, 3, none⟩ (Nat.lt_succ_of_lt (Nat.lt_succ_self _)) (.int .u16 0)) ⟨w.heap.size, 4, none⟩ (Nat.lt_succ_of_lt (Nat.lt_succ_self _)) (.int .u16 0)) ⟨w.heap.size, 5, none⟩ (Nat.lt_succ_of_lt (Nat.lt_succ_self _)) (.int .u16 0)) ⟨w.heap.size, 6, none⟩ (Nat.lt_succ_of_lt (Nat.lt_succ_self _)) (.slice none 0 0)) ⟨w.heap.size, 7, none⟩ (Nat.lt_succ_of_lt (Nat.lt_succ_self _)) (.slice B5 (1 + d2).toNat c5)) ⟨w.heap.size, 8, none⟩ (Nat.lt_succ_of_lt (Nat.lt_succ_self _)) (.int .i64 0)) ⟨w.heap.size, 9, none⟩ (Nat.lt_succ_of_lt (Nat.lt_succ_self _)) (.int .i64 0)) ⟨w.heap.size, 10, none⟩ (Nat.lt_succ_of_lt (Nat.lt_succ_self _)) (.int .i64 0)) ⟨w.heap.size, 11, none⟩ (Nat.lt_succ_of_lt (Nat.lt_succ_self _)) (.int .i64 0))
    rw [hw9] at hwh hbb
    rw [hw9]
    obtain ⟨he0, he1, he2, he3, he4, he5, he6, he7, he8, he9, he10, he11⟩ := cells12 hwh
    refine bodyPost_ret (v := .agg #[.int .i64 16, .int .i64 d4, .int .i64 (1 + d2), .int .u16 0, .int .u16 0, .int .u16 0, .slice none 0 0, .slice B5 (1 + d2).toNat c5, .int .i64 0, .int .i64 0, .int .i64 0, .int .i64 0]) (by simp [results, Try.results22, go_sem, he0, he1, he2, he3, he4, he5, he6, he7, he8, he9, he10, he11]) rfl ⟨none, B5, 0, c5, rfl, own_none _ _ _, own_mono ho9 (by omega), hbb⟩

set_option maxRecDepth 100000 in
set_option maxHeartbeats 2000000 in
theorem lask_11b (k v : Int) (k0 : -9223372036854775808 ≤ k) (k1 : k ≤ 9223372036854775807) (v0 : -9223372036854775808 ≤ v) (v1 : v ≤ 9223372036854775807) (hq : k % 16 = 11) (h3' : ¬ ((k.tdiv 3840) % 12 = 0)) : AskIs k v := by
  obtain ⟨d1, hd1⟩ : ∃ z, (k.tdiv 16) % 40 = z := ⟨_, rfl⟩
  have d1l : 0 ≤ d1 := by omega
  have d1h : d1 < 40 := by omega
  have HD1 := Lib.hid hd1
  clear hd1
  obtain ⟨d2, hd2⟩ : ∃ z, (k.tdiv 640) % 6 = z := ⟨_, rfl⟩
  have d2l : 0 ≤ d2 := by omega
  have d2h : d2 < 6 := by omega
  have HD2 := Lib.hid hd2
  clear hd2
  obtain ⟨d3, hd3⟩ : ∃ z, (k.tdiv 3840) % 12 = z := ⟨_, rfl⟩
  have d3l : 0 ≤ d3 := by omega
  have d3h : d3 < 12 := by omega
  have HD3 := Lib.hid hd3
  have h3 : ¬ d3 = 0 := by rw [← hd3]; exact h3'
  clear h3'
  clear hd3
  obtain ⟨d4, hd4⟩ : ∃ z, (k.tdiv 46080) % 65536 = z := ⟨_, rfl⟩
  have d4l : 0 ≤ d4 := by omega
  have d4h : d4 < 65536 := by omega
  have HD4 := Lib.hid hd4
  clear hd4
  have HQ := Lib.hid hq
  clear hq
  all_goals
    refine ⟨16, d1, (1 + d2), 0, 0, 0, 0, (1 + d2).toNat, 0, 0, 0, 0, [], upW (v % 60000) (1 + d2).toNat, ⟨⟨rfl, by unfold plainP; omega, by omega, by omega, by have m1 : kMostR 16 = 0 := rfl; have m2 : kMostW 16 = 123 := rfl; unfold fitsP; omega⟩, wide_of (by omega) (by omega) (by omega) (by omega) (by omega) (by omega) (by omega) (by omega) (by omega), upW_words _ _ (by omega) (by omega) (by omega), rfl, upW_length _ _⟩, fun w => ?_⟩
    go_enter Try.func22, Try.ntmps22
    go_wp2_with (first
      | (go_at_call 28; (with_reducible refine (digit_lit k 16 40 _ _ HD1.out k0 k1 (by omega) (by omega) (by omega) (by omega)).mono ?_); rintro e w' ⟨rfl, rfl⟩)
      | (go_at_call 28; (with_reducible refine (digit_lit k 640 6 _ _ HD2.out k0 k1 (by omega) (by omega) (by omega) (by omega)).mono ?_); rintro e w' ⟨rfl, rfl⟩)
      | (go_at_call 28; (with_reducible refine (digit_lit k 3840 12 _ _ HD3.out k0 k1 (by omega) (by omega) (by omega) (by omega)).mono ?_); rintro e w' ⟨rfl, rfl⟩)
      | (go_at_call 28; (with_reducible refine (digit_lit k 46080 65536 _ _ HD4.out k0 k1 (by omega) (by omega) (by omega) (by omega)).mono ?_); rintro e w' ⟨rfl, rfl⟩)
      | (go_at_call 11; (with_reducible refine (within_lit k 16 _ _ HQ.out k0 k1 (by omega) (by omega)).mono ?_); rintro e w' ⟨rfl, rfl⟩)
      | (go_at_call 61
         (with_reducible refine (lwords_any v (1 + d2).toNat (1 + d2) _ (by omega) v0 v1 (by omega)).mono ?_)
         rintro e w5 ⟨B5, c5, rfl, ho5, hb5⟩
         have hs0 : (w.alloc (.cells #[.int .i64 0, .int .i64 0, .int .i64 0, .int .u16 0, .int .u16 0, .int .u16 0, .slice none 0 0, .slice none 0 0, .int .i64 0, .int .i64 0, .int .i64 0, .int .i64 0] 51)).heap.size = w.heap.size + 1 := by simp
         have hk0 : WholeV (w.alloc (.cells #[.int .i64 0, .int .i64 0, .int .i64 0, .int .u16 0, .int .u16 0, .int .u16 0, .slice none 0 0, .slice none 0 0, .int .i64 0, .int .i64 0, .int .i64 0, .int .i64 0] 51)) w.heap.size 51 [.int .i64 0, .int .i64 0, .int .i64 0, .int .u16 0, .int .u16 0, .int .u16 0, .slice none 0 0, .slice none 0 0, .int .i64 0, .int .i64 0, .int .i64 0, .int .i64 0] := heap_alloc_new w _
         have hk1 : WholeV ((w.alloc (.cells #[.int .i64 0, .int .i64 0, .int .i64 0, .int .u16 0, .int .u16 0, .int .u16 0, .slice none 0 0, .slice none 0 0, .int .i64 0, .int .i64 0, .int .i64 0, .int .i64 0] 51)).alloc (.cells #[.int .i64 0, .int .i64 d1, .int .i64 0, .int .u16 0, .int .u16 0, .int .u16 0, .slice none 0 0, .slice none 0 0, .int .i64 0, .int .i64 0, .int .i64 0, .int .i64 0] 51)) (w.heap.size + 1) 51 [.int .i64 0, .int .i64 d1, .int .i64 0, .int .u16 0, .int .u16 0, .int .u16 0, .slice none 0 0, .slice none 0 0, .int .i64 0, .int .i64 0, .int .i64 0, .int .i64 0] := by
           have h := heap_alloc_new (w.alloc (.cells #[.int .i64 0, .int .i64 0, .int .i64 0, .int .u16 0, .int .u16 0, .int .u16 0, .slice none 0 0, .slice none 0 0, .int .i64 0, .int .i64 0, .int .i64 0, .int .i64 0] 51)) (.cells #[.int .i64 0, .int .i64 d1, .int .i64 0, .int .u16 0, .int .u16 0, .int .u16 0, .slice none 0 0, .slice none 0 0, .int .i64 0, .int .i64 0, .int .i64 0, .int .i64 0] 51)
           rwa [hs0] at h
         have hk2 := hk0.below ((Below.refl _ _).alloc (Nat.le_refl _) (.cells #[.int .i64 0, .int .i64 d1, .int .i64 0, .int .u16 0, .int .u16 0, .int .u16 0, .slice none 0 0, .slice none 0 0, .int .i64 0, .int .i64 0, .int .i64 0, .int .i64 0] 51)) (by simp)
         have h1 := hk1.below hb5 hk1.lt
         have h0 := hk2.below hb5 hk2.lt
         have HB5 : Hid (Below w.heap.size w w5) := (((Below.refl _ _).alloc (Nat.le_refl _) _).alloc (by simp) _).trans (hb5.mono (by simp; omega))
         have HO5 : Hid (w5.ownsRow (w.heap.size + 2) 28 1 (.slice B5 (1 + d2).toNat c5) (1 + d2).toNat ((upW (v % 60000) (1 + d2).toNat).map (Value.int .u16))) := own_mono ho5 (by simp)
         obtain ⟨hq0, hq1, hq2, hq3, hq4, hq5, hq6, hq7, hq8, hq9, hq10, hq11⟩ := cells12 h1
         obtain ⟨hp0, hp1, hp2, hp3, hp4, hp5, hp6, hp7, hp8, hp9, hp10, hp11⟩ := cells12 h0
         have hf0 := h1.frozen 0
         have hg0 := h0.frozen 0
         have hf1 := h1.frozen 1
         have hg1 := h0.frozen 1
         have hf2 := h1.frozen 2
         have hg2 := h0.frozen 2
         have hf3 := h1.frozen 3
         have hg3 := h0.frozen 3
         have hf4 := h1.frozen 4
         have hg4 := h0.frozen 4
         have hf5 := h1.frozen 5
         have hg5 := h0.frozen 5
         have hf6 := h1.frozen 6
         have hg6 := h0.frozen 6
         have hf7 := h1.frozen 7
         have hg7 := h0.frozen 7
         have hf8 := h1.frozen 8
         have hg8 := h0.frozen 8
         have hf9 := h1.frozen 9
         have hg9 := h0.frozen 9
         have hf10 := h1.frozen 10
         have hg10 := h0.frozen 10
         have hf11 := h1.frozen 11
         have hg11 := h0.frozen 11
         have hz5 : w.heap.size + 2 ≤ w5.heap.size := h1.lt
         have HH1 := Lib.hid h1
         have HH0 := Lib.hid h0
         clear hs0 hk0 hk1 hk2 h1 h0 hb5 ho5))
    obtain ⟨X, hX⟩ : ∃ X, (((w5.setCell ⟨w.heap.size + 1, 0, none⟩ (.int .i64 16)).setCell ⟨w.heap.size + 1, 2, none⟩ (.int .i64 (1 + d2))).setCell ⟨w.heap.size + 1, 7, none⟩ (.slice B5 (1 + d2).toNat c5)) = X := ⟨_, rfl⟩
    have hx0 : WholeV X w.heap.size 51 [.int .i64 0, .int .i64 0, .int .i64 0, .int .u16 0, .int .u16 0, .int .u16 0, .slice none 0 0, .slice none 0 0, .int .i64 0, .int .i64 0, .int .i64 0, .int .i64 0] := by rw [← hX]; exact HH0.out.below ((((Below.refl (w.heap.size + 1) w5).setCell (p := ⟨w.heap.size + 1, 0, none⟩) (Nat.le_refl _) (.int .i64 16)).setCell (p := ⟨w.heap.size + 1, 2, none⟩) (Nat.le_refl _) (.int .i64 (1 + d2))).setCell (p := ⟨w.heap.size + 1, 7, none⟩) (Nat.le_refl _) (.slice B5 (1 + d2).toNat c5)) (Nat.lt_succ_self _)
    have hxb : Below w.heap.size w X := by rw [← hX]; exact (((HB5.out.setCell (p := ⟨w.heap.size + 1, 0, none⟩) (Nat.le_succ _) (.int .i64 16)).setCell (p := ⟨w.heap.size + 1, 2, none⟩) (Nat.le_succ _) (.int .i64 (1 + d2))).setCell (p := ⟨w.heap.size + 1, 7, none⟩) (Nat.le_succ _) (.slice B5 (1 + d2).toNat c5))
    have hox : X.ownsRow (w.heap.size + 2) 28 1 (.slice B5 (1 + d2).toNat c5) (1 + d2).toNat ((upW (v % 60000) (1 + d2).toNat).map (Value.int .u16)) := by rw [← hX]; exact (own_far (own_far (own_far HO5.out ⟨w.heap.size + 1, 0, none⟩ (Nat.lt_succ_self _) (.int .i64 16)) ⟨w.heap.size + 1, 2, none⟩ (Nat.lt_succ_self _) (.int .i64 (1 + d2))) ⟨w.heap.size + 1, 7, none⟩ (Nat.lt_succ_self _) (.slice B5 (1 + d2).toNat c5))
    rw [hX]
    obtain ⟨w9, hw9⟩ : ∃ w9, ((((((((((((X.setCell ⟨w.heap.size, 0, none⟩ (.int .i64 16)).setCell ⟨w.heap.size, 1, none⟩ (.int .i64 d1)).setCell ⟨w.heap.size, 2, none⟩ (.int .i64 (1 + d2))).setCell ⟨w.heap.size, 3, none⟩ (.int .u16 0)).setCell ⟨w.heap.size, 4, none⟩ (.int .u16 0)).setCell ⟨w.heap.size, 5, none⟩ (.int .u16 0)).setCell ⟨w.heap.size, 6, none⟩ (.slice none 0 0)).setCell ⟨w.heap.size, 7, none⟩ (.slice B5 (1 + d2).toNat c5)).setCell ⟨w.heap.size, 8, none⟩ (.int .i64 0)).setCell ⟨w.heap.size, 9, none⟩ (.int .i64 0)).setCell ⟨w.heap.size, 10, none⟩ (.int .i64 0)).setCell ⟨w.heap.size, 11, none⟩ (.int .i64 0)) = w9 := ⟨_, rfl⟩
    have hwh := all12 hx0 (.int .i64 16) (.int .i64 d1) (.int .i64 (1 + d2)) (.int .u16 0) (.int .u16 0) (.int .u16 0) (.slice none 0 0) (.slice B5 (1 + d2).toNat c5) (.int .i64 0) (.int .i64 0) (.int .i64 0) (.int .i64 0) rfl
    have hbb := bel12 hxb (.int .i64 16) (.int .i64 d1) (.int .i64 (1 + d2)) (.int .u16 0) (.int .u16 0) (.int .u16 0) (.slice none 0 0) (.slice B5 (1 + d2).toNat c5) (.int .i64 0) (.int .i64 0) (.int .i64 0) (.int .i64 0)
    have ho9 : w9.ownsRow (w.heap.size + 2) 28 1 (.slice B5 (1 + d2).toNat c5) (1 + d2).toNat ((upW (v % 60000) (1 + d2).toNat).map (Value.int .u16)) := by rw [← hw9]; exact (own_far (own_far (own_far (own_far (own_far (own_far (own_far (own_far (own_far (own_far (own_far (own_far hox ⟨w.heap.size, 0, none⟩ (Nat.lt_succ_of_lt (Nat.lt_succ_self _)) (.int .i64 16)) ⟨w.heap.size, 1, none⟩ (Nat.lt_succ_of_lt (Nat.lt_succ_self _)) (.int .i64 d1)) ⟨w.heap.size, 2, none⟩ (Nat.lt_succ_of_lt (Nat.lt_succ_self _)) (.int .i64 (1 + d2))) ⟨w.heap.size, 3, none⟩ (Nat.lt_succ_of_lt (Nat.lt_succ_self _)) (.int .u16 0)) ⟨w.heap.size, 4, none⟩ (Nat.lt_succ_of_lt (Nat.lt_succ_self _)) (.int .u16 0)) ⟨w.heap.size, 5, none⟩ (Nat.lt_succ_of_lt (Nat.lt_succ_self _)) (.int .u16 0)) ⟨w.heap.size, 6, none⟩ (Nat.lt_succ_of_lt (Nat.lt_succ_self _)) (.slice none 0 0)) ⟨w.heap.size, 7, none⟩ (Nat.lt_succ_of_lt (Nat.lt_succ_self _)) (.slice B5 (1 + d2).toNat c5)) ⟨w.heap.size, 8, none⟩ (Nat.lt_succ_of_lt (Nat.lt_succ_self _)) (.int .i64 0)) ⟨w.heap.size, 9, none⟩ (Nat.lt_succ_of_lt (Nat.lt_succ_self _)) (.int .i64 0)) ⟨w.heap.size, 10, none⟩ (Nat.lt_succ_of_lt (Nat.lt_succ_self _)) (.int .i64 0)) ⟨w.heap.size, 11, none⟩ (Nat.lt_succ_of_lt (Nat.lt_succ_self _)) (.int .i64 0))
    rw [hw9] at hwh hbb
    rw [hw9]
    obtain ⟨he0, he1, he2, he3, he4, he5, he6, he7, he8, he9, he10, he11⟩ := cells12 hwh
    refine bodyPost_ret (v := .agg #[.int .i64 16, .int .i64 d1, .int .i64 (1 + d2), .int .u16 0, .int .u16 0, .int .u16 0, .slice none 0 0, .slice B5 (1 + d2).toNat c5, .int .i64 0, .int .i64 0, .int .i64 0, .int .i64 0]) (by simp [results, Try.results22, go_sem, he0, he1, he2, he3, he4, he5, he6, he7, he8, he9, he10, he11]) rfl ⟨none, B5, 0, c5, rfl, own_none _ _ _, own_mono ho9 (by omega), hbb⟩

set_option maxRecDepth 100000 in
set_option maxHeartbeats 2000000 in
theorem lask_12a (k v : Int) (k0 : -9223372036854775808 ≤ k) (k1 : k ≤ 9223372036854775807) (v0 : -9223372036854775808 ≤ v) (v1 : v ≤ 9223372036854775807) (hq : k % 16 = 12) (h3' : ((k.tdiv 3840) % 12 = 0)) : AskIs k v := by
  obtain ⟨d1, hd1⟩ : ∃ z, (k.tdiv 16) % 40 = z := ⟨_, rfl⟩
  have d1l : 0 ≤ d1 := by omega
  have d1h : d1 < 40 := by omega
  have HD1 := Lib.hid hd1
  clear hd1
  obtain ⟨d2, hd2⟩ : ∃ z, (k.tdiv 640) % 6 = z := ⟨_, rfl⟩
  have d2l : 0 ≤ d2 := by omega
  have d2h : d2 < 6 := by omega
  have HD2 := Lib.hid hd2
  clear hd2
  obtain ⟨d3, hd3⟩ : ∃ z, (k.tdiv 3840) % 12 = z := ⟨_, rfl⟩
  have d3l : 0 ≤ d3 := by omega
  have d3h : d3 < 12 := by omega
  have HD3 := Lib.hid hd3
  have h3 : d3 = 0 := by rw [← hd3]; exact h3'
  clear h3'
  clear hd3
  obtain ⟨d4, hd4⟩ : ∃ z, (k.tdiv 46080) % 65536 = z := ⟨_, rfl⟩
  have d4l : 0 ≤ d4 := by omega
  have d4h : d4 < 65536 := by omega
  have HD4 := Lib.hid hd4
  clear hd4
  have HQ := Lib.hid hq
  clear hq
  all_goals
    refine ⟨16, d4, (1 + d2), 0, 0, 0, 0, (1 + d2).toNat, 0, 0, 0, 0, [], upW (v % 60000) (1 + d2).toNat, ⟨⟨rfl, by unfold plainP; omega, by omega, by omega, by have m1 : kMostR 16 = 0 := rfl; have m2 : kMostW 16 = 123 := rfl; unfold fitsP; omega⟩, wide_of (by omega) (by omega) (by omega) (by omega) (by omega) (by omega) (by omega) (by omega) (by omega), upW_words _ _ (by omega) (by omega) (by omega), rfl, upW_length _ _⟩, fun w => ?_⟩
    go_enter Try.func22, Try.ntmps22
    go_wp2_with (first
      | (go_at_call 28; (with_reducible refine (digit_lit k 16 40 _ _ HD1.out k0 k1 (by omega) (by omega) (by omega) (by omega)).mono ?_); rintro e w' ⟨rfl, rfl⟩)
      | (go_at_call 28; (with_reducible refine (digit_lit k 640 6 _ _ HD2.out k0 k1 (by omega) (by omega) (by omega) (by omega)).mono ?_); rintro e w' ⟨rfl, rfl⟩)
      | (go_at_call 28; (with_reducible refine (digit_lit k 3840 12 _ _ HD3.out k0 k1 (by omega) (by omega) (by omega) (by omega)).mono ?_); rintro e w' ⟨rfl, rfl⟩)
      | (go_at_call 28; (with_reducible refine (digit_lit k 46080 65536 _ _ HD4.out k0 k1 (by omega) (by omega) (by omega) (by omega)).mono ?_); rintro e w' ⟨rfl, rfl⟩)
      | (go_at_call 11; (with_reducible refine (within_lit k 16 _ _ HQ.out k0 k1 (by omega) (by omega)).mono ?_); rintro e w' ⟨rfl, rfl⟩)
      | (go_at_call 61
         (with_reducible refine (lwords_any v (1 + d2).toNat (1 + d2) _ (by omega) v0 v1 (by omega)).mono ?_)
         rintro e w5 ⟨B5, c5, rfl, ho5, hb5⟩
         have hs0 : (w.alloc (.cells #[.int .i64 0, .int .i64 0, .int .i64 0, .int .u16 0, .int .u16 0, .int .u16 0, .slice none 0 0, .slice none 0 0, .int .i64 0, .int .i64 0, .int .i64 0, .int .i64 0] 51)).heap.size = w.heap.size + 1 := by simp
         have hk0 : WholeV (w.alloc (.cells #[.int .i64 0, .int .i64 0, .int .i64 0, .int .u16 0, .int .u16 0, .int .u16 0, .slice none 0 0, .slice none 0 0, .int .i64 0, .int .i64 0, .int .i64 0, .int .i64 0] 51)) w.heap.size 51 [.int .i64 0, .int .i64 0, .int .i64 0, .int .u16 0, .int .u16 0, .int .u16 0, .slice none 0 0, .slice none 0 0, .int .i64 0, .int .i64 0, .int .i64 0, .int .i64 0] := heap_alloc_new w _
         have hk1 : WholeV ((w.alloc (.cells #[.int .i64 0, .int .i64 0, .int .i64 0, .int .u16 0, .int .u16 0, .int .u16 0, .slice none 0 0, .slice none 0 0, .int .i64 0, .int .i64 0, .int .i64 0, .int .i64 0] 51)).alloc (.cells #[.int .i64 0, .int .i64 d4, .int .i64 0, .int .u16 0, .int .u16 0, .int .u16 0, .slice none 0 0, .slice none 0 0, .int .i64 0, .int .i64 0, .int .i64 0, .int .i64 0] 51)) (w.heap.size + 1) 51 [.int .i64 0, .int .i64 d4, .int .i64 0, .int .u16 0, .int .u16 0, .int .u16 0, .slice none 0 0, .slice none 0 0, .int .i64 0, .int .i64 0, .int .i64 0, .int .i64 0] := by
           have h := heap_alloc_new (w.alloc (.cells #[.int .i64 0, .int .i64 0, .int .i64 0, .int .u16 0, .int .u16 0, .int .u16 0, .slice none 0 0, .slice none 0 0, .int .i64 0, .int .i64 0, .int .i64 0, .int .i64 0] 51)) (.cells #[.int .i64 0, .int .i64 d4, .int .i64 0, .int .u16 0, .int .u16 0, .int .u16 0, .slice none 0 0, .slice none 0 0, .int .i64 0, .int .i64 0, .int .i64 0, .int .i64 0] 51)
           rwa [hs0] at h
         have hk2 := hk0.below ((Below.refl _ _).alloc (Nat.le_refl _) (.cells #[.int .i64 0, .int .i64 d4, .int .i64 0, .int .u16 0, .int .u16 0, .int .u16 0, .slice none 0 0, .slice none 0 0, .int .i64 0, .int .i64 0, .int .i64 0, .int .i64 0] 51)) (by simp)
         have h1 := hk1.below hb5 hk1.lt
         have h0 := hk2.below hb5 hk2.lt
         have HB5 : Hid (Below w.heap.size w w5) := (((Below.refl _ _).alloc (Nat.le_refl _) _).alloc (by simp) _).trans (hb5.mono (by simp; omega))
         have HO5 : Hid (w5.ownsRow (w.heap.size + 2) 28 1 (.slice B5 (1 + d2).toNat c5) (1 + d2).toNat ((upW (v % 60000) (1 + d2).toNat).map (Value.int .u16))) := own_mono ho5 (by simp)
         obtain ⟨hq0, hq1, hq2, hq3, hq4, hq5, hq6, hq7, hq8, hq9, hq10, hq11⟩ := cells12 h1
         obtain ⟨hp0, hp1, hp2, hp3, hp4, hp5, hp6, hp7, hp8, hp9, hp10, hp11⟩ := cells12 h0
         have hf0 := h1.frozen 0
         have hg0 := h0.frozen 0
         have hf1 := h1.frozen 1
         have hg1 := h0.frozen 1
         have hf2 := h1.frozen 2
         have hg2 := h0.frozen 2
         have hf3 := h1.frozen 3
         have hg3 := h0.frozen 3
         have hf4 := h1.frozen 4
         have hg4 := h0.frozen 4
         have hf5 := h1.frozen 5
         have hg5 := h0.frozen 5
         have hf6 := h1.frozen 6
         have hg6 := h0.frozen 6
         have hf7 := h1.frozen 7
         have hg7 := h0.frozen 7
         have hf8 := h1.frozen 8
         have hg8 := h0.frozen 8
         have hf9 := h1.frozen 9
         have hg9 := h0.frozen 9
         have hf10 := h1.frozen 10
         have hg10 := h0.frozen 10
         have hf11 := h1.frozen 11
         have hg11 := h0.frozen 11
         have hz5 : w.heap.size + 2 ≤ w5.heap.size := h1.lt
         have HH1 := Lib.hid h1
         have HH0 := Lib.hid h0
         clear hs0 hk0 hk1 hk2 h1 h0 hb5 ho5))
    obtain ⟨X, hX⟩ : ∃ X, (((w5.setCell ⟨w.heap.size + 1, 0, none⟩ (.int .i64 16)).setCell ⟨w.heap.size + 1, 2, none⟩ (.int .i64 (1 + d2))).setCell ⟨w.heap.size + 1, 7, none⟩ (.slice B5 (1 + d2).toNat c5)) = X := ⟨_, rfl⟩
    have hx0 : WholeV X w.heap.size 51 [.int .i64 0, .int .i64 0, .int .i64 0, .int .u16 0, .int .u16 0, .int .u16 0, .slice none 0 0, .slice none 0 0, .int .i64 0, .int .i64 0, .int .i64 0, .int .i64 0] := by rw [← hX]; exact HH0.out.below ((((Below.refl (w.heap.size + 1) w5).setCell (p := ⟨w.heap.size + 1, 0, none⟩) (Nat.le_refl _) (.int .i64 16)).setCell (p := ⟨w.heap.size + 1, 2, none⟩) (Nat.le_refl _) (.int .i64 (1 + d2))).setCell (p := ⟨w.heap.size + 1, 7, none⟩) (Nat.le_refl _) (.slice B5 (1 + d2).toNat c5)) (Nat.lt_succ_self _)
    have hxb : Below w.heap.size w X := by rw [← hX]; exact (((HB5.out.setCell (p := ⟨w.heap.size + 1, 0, none⟩) (Nat.le_succ _) (.int .i64 16)).setCell (p := ⟨w.heap.size + 1, 2, none⟩) (Nat.le_succ _) (.int .i64 (1 + d2))).setCell (p := ⟨w.heap.size + 1, 7, none⟩) (Nat.le_succ _) (.slice B5 (1 + d2).toNat c5))
    have hox : X.ownsRow (w.heap.size + 2) 28 1 (.slice B5 (1 + d2).toNat c5) (1 + d2).toNat ((upW (v % 60000) (1 + d2).toNat).map (Value.int .u16)) := by rw [← hX]; exact (own_far (own_far (own_far HO5.out ⟨w.heap.size + 1, 0, none⟩ (Nat.lt_succ_self _) (.int .i64 16)) ⟨w.heap.size + 1, 2, none⟩ (Nat.lt_succ_self _) (.int .i64 (1 + d2))) ⟨w.heap.size + 1, 7, none⟩ (Nat.lt_succ_self _) (.slice B5 (1 + d2).toNat c5))
    rw [hX]
    obtain ⟨w9, hw9⟩ : ∃ w9, ((((((((((((X.setCell ⟨w.heap.size, 0, none⟩ (.int .i64 16)).setCell ⟨w.heap.size, 1, none⟩ (.int .i64 d4)).setCell ⟨w.heap.size, 2, none⟩ (.int .i64 (1 + d2))).setCell ⟨w.heap.size, 3, none⟩ (.int .u16 0)).setCell ⟨w.heap.size, 4, none⟩ (.int .u16 0)).setCell ⟨w.heap.size, 5, none⟩ (.int .u16 0)).setCell ⟨w.heap.size, 6, none⟩ (.slice none 0 0)).setCell ⟨w.heap.size, 7, none⟩ (.slice B5 (1 + d2).toNat c5)).setCell ⟨w.heap.size, 8, none⟩ (.int .i64 0)).setCell ⟨w.heap.size, 9, none⟩ (.int .i64 0)).setCell ⟨w.heap.size, 10, none⟩ (.int .i64 0)).setCell ⟨w.heap.size, 11, none⟩ (.int .i64 0)) = w9 := ⟨_, rfl⟩
    have hwh := all12 hx0 (.int .i64 16) (.int .i64 d4) (.int .i64 (1 + d2)) (.int .u16 0) (.int .u16 0) (.int .u16 0) (.slice none 0 0) (.slice B5 (1 + d2).toNat c5) (.int .i64 0) (.int .i64 0) (.int .i64 0) (.int .i64 0) rfl
    have hbb := bel12 hxb (.int .i64 16) (.int .i64 d4) (.int .i64 (1 + d2)) (.int .u16 0) (.int .u16 0) (.int .u16 0) (.slice none 0 0) (.slice B5 (1 + d2).toNat c5) (.int .i64 0) (.int .i64 0) (.int .i64 0) (.int .i64 0)
    have ho9 : w9.ownsRow (w.heap.size + 2) 28 1 (.slice B5 (1 + d2).toNat c5) (1 + d2).toNat ((upW (v % 60000) (1 + d2).toNat).map (Value.int .u16)) := by rw [← hw9]; exact (own_far (own_far (own_far (own_far (own_far (own_far (own_far (own_far (own_far (own_far (own_far (own_far hox ⟨w.heap.size, 0, none⟩ (Nat.lt_succ_of_lt (Nat.lt_succ_self _)) (.int .i64 16)) ⟨w.heap.size, 1, none⟩ (Nat.lt_succ_of_lt (Nat.lt_succ_self _)) (.int .i64 d4)) ⟨w.heap.size, 2, none⟩ (Nat.lt_succ_of_lt (Nat.lt_succ_self _)) (.int .i64 (1 + d2))) ⟨w.heap.size, 3, none⟩ (Nat.lt_succ_of_lt (Nat.lt_succ_self _)) (.int .u16 0)) ⟨w.heap.size, 4, none⟩ (Nat.lt_succ_of_lt (Nat.lt_succ_self _)) (.int .u16 0)) ⟨w.heap.size, 5, none⟩ (Nat.lt_succ_of_lt (Nat.lt_succ_self _)) (.int .u16 0)) ⟨w.heap.size, 6, none⟩ (Nat.lt_succ_of_lt (Nat.lt_succ_self _)) (.slice none 0 0)) ⟨w.heap.size, 7, none⟩ (Nat.lt_succ_of_lt (Nat.lt_succ_self _)) (.slice B5 (1 + d2).toNat c5)) ⟨w.heap.size, 8, none⟩ (Nat.lt_succ_of_lt (Nat.lt_succ_self _)) (.int .i64 0)) ⟨w.heap.size, 9, none⟩ (Nat.lt_succ_of_lt (Nat.lt_succ_self _)) (.int .i64 0)) ⟨w.heap.size, 10, none⟩ (Nat.lt_succ_of_lt (Nat.lt_succ_self _)) (.int .i64 0)) ⟨w.heap.size, 11, none⟩ (Nat.lt_succ_of_lt (Nat.lt_succ_self _)) (.int .i64 0))
    rw [hw9] at hwh hbb
    rw [hw9]
    obtain ⟨he0, he1, he2, he3, he4, he5, he6, he7, he8, he9, he10, he11⟩ := cells12 hwh
    refine bodyPost_ret (v := .agg #[.int .i64 16, .int .i64 d4, .int .i64 (1 + d2), .int .u16 0, .int .u16 0, .int .u16 0, .slice none 0 0, .slice B5 (1 + d2).toNat c5, .int .i64 0, .int .i64 0, .int .i64 0, .int .i64 0]) (by simp [results, Try.results22, go_sem, he0, he1, he2, he3, he4, he5, he6, he7, he8, he9, he10, he11]) rfl ⟨none, B5, 0, c5, rfl, own_none _ _ _, own_mono ho9 (by omega), hbb⟩

set_option maxRecDepth 100000 in
set_option maxHeartbeats 2000000 in
theorem lask_12b (k v : Int) (k0 : -9223372036854775808 ≤ k) (k1 : k ≤ 9223372036854775807) (v0 : -9223372036854775808 ≤ v) (v1 : v ≤ 9223372036854775807) (hq : k % 16 = 12) (h3' : ¬ ((k.tdiv 3840) % 12 = 0)) : AskIs k v := by
  obtain ⟨d1, hd1⟩ : ∃ z, (k.tdiv 16) % 40 = z := ⟨_, rfl⟩
  have d1l : 0 ≤ d1 := by omega
  have d1h : d1 < 40 := by omega
  have HD1 := Lib.hid hd1
  clear hd1
  obtain ⟨d2, hd2⟩ : ∃ z, (k.tdiv 640) % 6 = z := ⟨_, rfl⟩
  have d2l : 0 ≤ d2 := by omega
  have d2h : d2 < 6 := by omega
  have HD2 := Lib.hid hd2
  clear hd2
  obtain ⟨d3, hd3⟩ : ∃ z, (k.tdiv 3840) % 12 = z := ⟨_, rfl⟩
  have d3l : 0 ≤ d3 := by omega
  have d3h : d3 < 12 := by omega
  have HD3 := Lib.hid hd3
  have h3 : ¬ d3 = 0 := by rw [← hd3]; exact h3'
  clear h3'
  clear hd3
  obtain ⟨d4, hd4⟩ : ∃ z, (k.tdiv 46080) % 65536 = z := ⟨_, rfl⟩
  have d4l : 0 ≤ d4 := by omega
  have d4h : d4 < 65536 := by omega
  have HD4 := Lib.hid hd4
  clear hd4
  have HQ := Lib.hid hq
  clear hq
  all_goals
    refine ⟨16, d1, (1 + d2), 0, 0, 0, 0, (1 + d2).toNat, 0, 0, 0, 0, [], upW (v % 60000) (1 + d2).toNat, ⟨⟨rfl, by unfold plainP; omega, by omega, by omega, by have m1 : kMostR 16 = 0 := rfl; have m2 : kMostW 16 = 123 := rfl; unfold fitsP; omega⟩, wide_of (by omega) (by omega) (by omega) (by omega) (by omega) (by omega) (by omega) (by omega) (by omega), upW_words _ _ (by omega) (by omega) (by omega), rfl, upW_length _ _⟩, fun w => ?_⟩
    go_enter Try.func22, Try.ntmps22
    go_wp2_with (first
      | (go_at_call 28; (with_reducible refine (digit_lit k 16 40 _ _ HD1.out k0 k1 (by omega) (by omega) (by omega) (by omega)).mono ?_); rintro e w' ⟨rfl, rfl⟩)
      | (go_at_call 28; (with_reducible refine (digit_lit k 640 6 _ _ HD2.out k0 k1 (by omega) (by omega) (by omega) (by omega)).mono ?_); rintro e w' ⟨rfl, rfl⟩)
      | (go_at_call 28; (with_reducible refine (digit_lit k 3840 12 _ _ HD3.out k0 k1 (by omega) (by omega) (by omega) (by omega)).mono ?_); rintro e w' ⟨rfl, rfl⟩)
      | (go_at_call 28; (with_reducible refine (digit_lit k 46080 65536 _ _ HD4.out k0 k1 (by omega) (by omega) (by omega) (by omega)).mono ?_); rintro e w' ⟨rfl, rfl⟩)
      | (go_at_call 11; (with_reducible refine (within_lit k 16 _ _ HQ.out k0 k1 (by omega) (by omega)).mono ?_); rintro e w' ⟨rfl, rfl⟩)
      | (go_at_call 61
         (with_reducible refine (lwords_any v (1 + d2).toNat (1 + d2) _ (by omega) v0 v1 (by omega)).mono ?_)
         rintro e w5 ⟨B5, c5, rfl, ho5, hb5⟩
         have hs0 : (w.alloc (.cells #[.int .i64 0, .int .i64 0, .int .i64 0, .int .u16 0, .int .u16 0, .int .u16 0, .slice none 0 0, .slice none 0 0, .int .i64 0, .int .i64 0, .int .i64 0, .int .i64 0] 51)).heap.size = w.heap.size + 1 := by simp
         have hk0 : WholeV (w.alloc (.cells #[.int .i64 0, .int .i64 0, .int .i64 0, .int .u16 0, .int .u16 0, .int .u16 0, .slice none 0 0, .slice none 0 0, .int .i64 0, .int .i64 0, .int .i64 0, .int .i64 0] 51)) w.heap.size 51 [.int .i64 0, .int .i64 0, .int .i64 0, .int .u16 0, .int .u16 0, .int .u16 0, .slice none 0 0, .slice none 0 0, .int .i64 0, .int .i64 0, .int .i64 0, .int .i64 0] := heap_alloc_new w _
         have hk1 : WholeV ((w.alloc (.cells #[.int .i64 0, .int .i64 0, .int .i64 0, .int .u16 0, .int .u16 0, .int .u16 0, .slice none 0 0, .slice none 0 0, .int .i64 0, .int .i64 0, .int .i64 0, .int .i64 0] 51)).alloc (.cells #[.int .i64 0, .int .i64 d1, .int .i64 0, .int .u16 0, .int .u16 0, .int .u16 0, .slice none 0 0, .slice none 0 0, .int .i64 0, .int .i64 0, .int .i64 0, .int .i64 0] 51)) (w.heap.size + 1) 51 [.int .i64 0, .int .i64 d1, .int .i64 0, .int .u16 0, .int .u16 0, .int .u16 0, .slice none 0 0, .slice none 0 0, .int .i64 0, .int .i64 0, .int .i64 0, .int .i64 0] := by
           have h := heap_alloc_new (w.alloc (.cells #[.int .i64 0, .int .i64 0, .int .i64 0, .int .u16 0, .int .u16 0, .int .u16 0, .slice none 0 0, .slice none 0 0, .int .i64 0, .int .i64 0, .int .i64 0, .int .i64 0] 51)) (.cells #[.int .i64 0, .int .i64 d1, .int .i64 0, .int .u16 0, .int .u16 0, .int .u16 0, .slice none 0 0, .slice none 0 0, .int .i64 0, .int .i64 0, .int .i64 0, .int .i64 0] 51)
           rwa [hs0] at h
         have hk2 := hk0.below ((Below.refl _ _).alloc (Nat.le_refl _) (.cells #[.int .i64 0, .int .i64 d1, .int .i64 0, .int .u16 0, .int .u16 0, .int .u16 0, .slice none 0 0, .slice none 0 0, .int .i64 0, .int .i64 0, .int .i64 0, .int .i64 0] 51)) (by simp)
         have h1 := hk1.below hb5 hk1.lt
         have h0 := hk2.below hb5 hk2.lt
         have HB5 : Hid (Below w.heap.size w w5) := (((Below.refl _ _).alloc (Nat.le_refl _) _).alloc (by simp) _).trans (hb5.mono (by simp; omega))
         have HO5 : Hid (w5.ownsRow (w.heap.size + 2) 28 1 (.slice B5 (1 + d2).toNat c5) (1 + d2).toNat ((upW (v % 60000) (1 + d2).toNat).map (Value.int .u16))) := own_mono ho5 (by simp)
         obtain ⟨hq0, hq1, hq2, hq3, hq4, hq5, hq6, hq7, hq8, hq9, hq10, hq11⟩ := cells12 h1
         obtain ⟨hp0, hp1, hp2, hp3, hp4, hp5, hp6, hp7, hp8, hp9, hp10, hp11⟩ := cells12 h0
         have hf0 := h1.frozen 0
         have hg0 := h0.frozen 0
         have hf1 := h1.frozen 1
         have hg1 := h0.frozen 1
         have hf2 := h1.frozen 2
         have hg2 := h0.frozen 2
         have hf3 := h1.frozen 3
         have hg3 := h0.frozen 3
         have hf4 := h1.frozen 4
         have hg4 := h0.frozen 4
         have hf5 := h1.frozen 5
         have hg5 := h0.frozen 5
         have hf6 := h1.frozen 6
         have hg6 := h0.frozen 6
         have hf7 := h1.frozen 7
         have hg7 := h0.frozen 7
         have hf8 := h1.frozen 8
         have hg8 := h0.frozen 8
         have hf9 := h1.frozen 9
         have hg9 := h0.frozen 9
         have hf10 := h1.frozen 10
         have hg10 := h0.frozen 10
         have hf11 := h1.frozen 11
         have hg11 := h0.frozen 11
         have hz5 : w.heap.size + 2 ≤ w5.heap.size := h1.lt
         have HH1 := Lib.hid h1
         have HH0 := Lib.hid h0
         clear hs0 hk0 hk1 hk2 h1 h0 hb5 ho5))
    obtain ⟨X, hX⟩ : ∃ X, (((w5.setCell ⟨w.heap.size + 1, 0, none⟩ (.int .i64 16)).setCell ⟨w.heap.size + 1, 2, none⟩ (.int .i64 (1 + d2))).setCell ⟨w.heap.size + 1, 7, none⟩ (.slice B5 (1 + d2).toNat c5)) = X := ⟨_, rfl⟩
    have hx0 : WholeV X w.heap.size 51 [.int .i64 0, .int .i64 0, .int .i64 0, .int .u16 0, .int .u16 0, .int .u16 0, .slice none 0 0, .slice none 0 0, .int .i64 0, .int .i64 0, .int .i64 0, .int .i64 0] := by rw [← hX]; exact HH0.out.below ((((Below.refl (w.heap.size + 1) w5).setCell (p := ⟨w.heap.size + 1, 0, none⟩) (Nat.le_refl _) (.int .i64 16)).setCell (p := ⟨w.heap.size + 1, 2, none⟩) (Nat.le_refl _) (.int .i64 (1 + d2))).setCell (p := ⟨w.heap.size + 1, 7, none⟩) (Nat.le_refl _) (.slice B5 (1 + d2).toNat c5)) (Nat.lt_succ_self _)
    have hxb : Below w.heap.size w X := by rw [← hX]; exact (((HB5.out.setCell (p := ⟨w.heap.size + 1, 0, none⟩) (Nat.le_succ _) (.int .i64 16)).setCell (p := ⟨w.heap.size + 1, 2, none⟩) (Nat.le_succ _) (.int .i64 (1 + d2))).setCell (p := ⟨w.heap.size + 1, 7, none⟩) (Nat.le_succ _) (.slice B5 (1 + d2).toNat c5))
    have hox : X.ownsRow (w.heap.size + 2) 28 1 (.slice B5 (1 + d2).toNat c5) (1 + d2).toNat ((upW (v % 60000) (1 + d2).toNat).map (Value.int .u16)) := by rw [← hX]; exact (own_far (own_far (own_far HO5.out ⟨w.heap.size + 1, 0, none⟩ (Nat.lt_succ_self _) (.int .i64 16)) ⟨w.heap.size + 1, 2, none⟩ (Nat.lt_succ_self _) (.int .i64 (1 + d2))) ⟨w.heap.size + 1, 7, none⟩ (Nat.lt_succ_self _) (.slice B5 (1 + d2).toNat c5))
    rw [hX]
    obtain ⟨w9, hw9⟩ : ∃ w9, ((((((((((((X.setCell ⟨w.heap.size, 0, none⟩ (.int .i64 16)).setCell ⟨w.heap.size, 1, none⟩ (.int .i64 d1)).setCell ⟨w.heap.size, 2, none⟩ (.int .i64 (1 + d2))).setCell ⟨w.heap.size, 3, none⟩ (.int .u16 0)).setCell ⟨w.heap.size, 4, none⟩ (.int .u16 0)).setCell ⟨w.heap.size, 5, none⟩ (.int .u16 0)).setCell ⟨w.heap.size, 6, none⟩ (.slice none 0 0)).setCell ⟨w.heap.size, 7, none⟩ (.slice B5 (1 + d2).toNat c5)).setCell ⟨w.heap.size, 8, none⟩ (.int .i64 0)).setCell ⟨w.heap.size, 9, none⟩ (.int .i64 0)).setCell ⟨w.heap.size, 10, none⟩ (.int .i64 0)).setCell ⟨w.heap.size, 11, none⟩ (.int .i64 0)) = w9 := ⟨_, rfl⟩
    have hwh := all12 hx0 (.int .i64 16) (.int .i64 d1) (.int .i64 (1 + d2)) (.int .u16 0) (.int .u16 0) (.int .u16 0) (.slice none 0 0) (.slice B5 (1 + d2).toNat c5) (.int .i64 0) (.int .i64 0) (.int .i64 0) (.int .i64 0) rfl
    have hbb := bel12 hxb (.int .i64 16) (.int .i64 d1) (.int .i64 (1 + d2)) (.int .u16 0) (.int .u16 0) (.int .u16 0) (.slice none 0 0) (.slice B5 (1 + d2).toNat c5) (.int .i64 0) (.int .i64 0) (.int .i64 0) (.int .i64 0)
    have ho9 : w9.ownsRow (w.heap.size + 2) 28 1 (.slice B5 (1 + d2).toNat c5) (1 + d2).toNat ((upW (v % 60000) (1 + d2).toNat).map (Value.int .u16)) := by rw [← hw9]; exact (own_far (own_far (own_far (own_far (own_far (own_far (own_far (own_far (own_far (own_far (own_far (own_far hox ⟨w.heap.size, 0, none⟩ (Nat.lt_succ_of_lt (Nat.lt_succ_self _)) (.int .i64 16)) ⟨w.heap.size, 1, none⟩ (Nat.lt_succ_of_lt (Nat.lt_succ_self _)) (.int .i64 d1)) ⟨w.heap.size, 2, none⟩ (Nat.lt_succ_of_lt (Nat.lt_succ_self _)) (.int .i64 (1 + d2))) ⟨w.heap.size, 3, none⟩ (Nat.lt_succ_of_lt (Nat.lt_succ_self _)) (.int .u16 0)) ⟨w.heap.size, 4, none⟩ (Nat.lt_succ_of_lt (Nat.lt_succ_self _)) (.int .u16 0)) ⟨w.heap.size, 5, none⟩ (Nat.lt_succ_of_lt (Nat.lt_succ_self _)) (.int .u16 0)) ⟨w.heap.size, 6, none⟩ (Nat.lt_succ_of_lt (Nat.lt_succ_self _)) (.slice none 0 0)) ⟨w.heap.size, 7, none⟩ (Nat.lt_succ_of_lt (Nat.lt_succ_self _)) (.slice B5 (1 + d2).toNat c5)) ⟨w.heap.size, 8, none⟩ (Nat.lt_succ_of_lt (Nat.lt_succ_self _)) (.int .i64 0)) ⟨w.heap.size, 9, none⟩ (Nat.lt_succ_of_lt (Nat.lt_succ_self _)) (.int .i64 0)) ⟨w.heap.size, 10, none⟩ (Nat.lt_succ_of_lt (Nat.lt_succ_self _)) (.int .i64 0)) ⟨w.heap.size, 11, none⟩ (Nat.lt_succ_of_lt (Nat.lt_succ_self _)) (.int .i64 0))
    rw [hw9] at hwh hbb
    rw [hw9]
    obtain ⟨he0, he1, he2, he3, he4, he5, he6, he7, he8, he9, he10, he11⟩ := cells12 hwh
    refine bodyPost_ret (v := .agg #[.int .i64 16, .int .i64 d1, .int .i64 (1 + d2), .int .u16 0, .int .u16 0, .int .u16 0, .slice none 0 0, .slice B5 (1 + d2).toNat c5, .int .i64 0, .int .i64 0, .int .i64 0, .int .i64 0]) (by simp [results, Try.results22, go_sem, he0, he1, he2, he3, he4, he5, he6, he7, he8, he9, he10, he11]) rfl ⟨none, B5, 0, c5, rfl, own_none _ _ _, own_mono ho9 (by omega), hbb⟩

set_option maxRecDepth 100000 in
set_option maxHeartbeats 2000000 in
theorem lask_14a (k v : Int) (k0 : -9223372036854775808 ≤ k) (k1 : k ≤ 9223372036854775807) (v0 : -9223372036854775808 ≤ v) (v1 : v ≤ 9223372036854775807) (hq : k % 16 = 14) (h3' : ((k.tdiv 3840) % 12 = 0)) : AskIs k v := by
  obtain ⟨d1, hd1⟩ : ∃ z, (k.tdiv 16) % 40 = z := ⟨_, rfl⟩
  have d1l : 0 ≤ d1 := by omega
  have d1h : d1 < 40 := by omega
  have HD1 := Lib.hid hd1
  clear hd1
  obtain ⟨d2, hd2⟩ : ∃ z, (k.tdiv 640) % 6 = z := ⟨_, rfl⟩
  have d2l : 0 ≤ d2 := by omega
  have d2h : d2 < 6 := by omega
  have HD2 := Lib.hid hd2
  clear hd2
  obtain ⟨d3, hd3⟩ : ∃ z, (k.tdiv 3840) % 12 = z := ⟨_, rfl⟩
  have d3l : 0 ≤ d3 := by omega
  have d3h : d3 < 12 := by omega
  have HD3 := Lib.hid hd3
  have h3 : d3 = 0 := by rw [← hd3]; exact h3'
  clear h3'
  clear hd3
  obtain ⟨d4, hd4⟩ : ∃ z, (k.tdiv 46080) % 65536 = z := ⟨_, rfl⟩
  have d4l : 0 ≤ d4 := by omega
  have d4h : d4 < 65536 := by omega
  have HD4 := Lib.hid hd4
  clear hd4
  obtain ⟨e1, he1⟩ : ∃ z, v % 40 = z := ⟨_, rfl⟩
  have e1l : 0 ≤ e1 := by omega
  have e1h : e1 < 40 := by omega
  have HE1 := Lib.hid he1
  clear he1
  obtain ⟨e2, he2⟩ : ∃ z, (v.tdiv 40) % 6 = z := ⟨_, rfl⟩
  have e2l : 0 ≤ e2 := by omega
  have e2h : e2 < 6 := by omega
  have HE2 := Lib.hid he2
  clear he2
  have HQ := Lib.hid hq
  clear hq
  all_goals
    refine ⟨23, d4, (1 + d2), 0, 0, 0, 0, (1 + d2).toNat, e1, (1 + e2), 0, 0, [], upW (v % 60000) (1 + d2).toNat, ⟨⟨rfl, by unfold plainP; omega, by omega, by omega, by have m1 : kMostR 23 = 125 := rfl; have m2 : kMostW 23 = 121 := rfl; unfold fitsP; omega⟩, wide_of (by omega) (by omega) (by omega) (by omega) (by omega) (by omega) (by omega) (by omega) (by omega), upW_words _ _ (by omega) (by omega) (by omega), rfl, upW_length _ _⟩, fun w => ?_⟩
    go_enter Try.func22, Try.ntmps22
    go_wp2_with (first
      | (go_at_call 28; (with_reducible refine (digit_lit k 16 40 _ _ HD1.out k0 k1 (by omega) (by omega) (by omega) (by omega)).mono ?_); rintro e w' ⟨rfl, rfl⟩)
      | (go_at_call 28; (with_reducible refine (digit_lit k 640 6 _ _ HD2.out k0 k1 (by omega) (by omega) (by omega) (by omega)).mono ?_); rintro e w' ⟨rfl, rfl⟩)
      | (go_at_call 28; (with_reducible refine (digit_lit k 3840 12 _ _ HD3.out k0 k1 (by omega) (by omega) (by omega) (by omega)).mono ?_); rintro e w' ⟨rfl, rfl⟩)
      | (go_at_call 28; (with_reducible refine (digit_lit k 46080 65536 _ _ HD4.out k0 k1 (by omega) (by omega) (by omega) (by omega)).mono ?_); rintro e w' ⟨rfl, rfl⟩)
      | (go_at_call 11; (with_reducible refine (within_lit k 16 _ _ HQ.out k0 k1 (by omega) (by omega)).mono ?_); rintro e w' ⟨rfl, rfl⟩)
      | (go_at_call 11; (with_reducible refine (within_lit v 40 _ _ HE1.out v0 v1 (by omega) (by omega)).mono ?_); rintro e w' ⟨rfl, rfl⟩)
      | (go_at_call 28; (with_reducible refine (digit_lit v 40 6 _ _ HE2.out v0 v1 (by omega) (by omega) (by omega) (by omega)).mono ?_); rintro e w' ⟨rfl, rfl⟩)
      | (go_at_call 61
         (with_reducible refine (lwords_any v (1 + d2).toNat (1 + d2) _ (by omega) v0 v1 (by omega)).mono ?_)
         rintro e w5 ⟨B5, c5, rfl, ho5, hb5⟩
         have hs0 : (w.alloc (.cells #[.int .i64 0, .int .i64 0, .int .i64 0, .int .u16 0, .int .u16 0, .int .u16 0, .slice none 0 0, .slice none 0 0, .int .i64 0, .int .i64 0, .int .i64 0, .int .i64 0] 51)).heap.size = w.heap.size + 1 := by simp
         have hk0 : WholeV (w.alloc (.cells #[.int .i64 0, .int .i64 0, .int .i64 0, .int .u16 0, .int .u16 0, .int .u16 0, .slice none 0 0, .slice none 0 0, .int .i64 0, .int .i64 0, .int .i64 0, .int .i64 0] 51)) w.heap.size 51 [.int .i64 0, .int .i64 0, .int .i64 0, .int .u16 0, .int .u16 0, .int .u16 0, .slice none 0 0, .slice none 0 0, .int .i64 0, .int .i64 0, .int .i64 0, .int .i64 0] := heap_alloc_new w _
         have hk1 : WholeV ((w.alloc (.cells #[.int .i64 0, .int .i64 0, .int .i64 0, .int .u16 0, .int .u16 0, .int .u16 0, .slice none 0 0, .slice none 0 0, .int .i64 0, .int .i64 0, .int .i64 0, .int .i64 0] 51)).alloc (.cells #[.int .i64 0, .int .i64 d4, .int .i64 0, .int .u16 0, .int .u16 0, .int .u16 0, .slice none 0 0, .slice none 0 0, .int .i64 0, .int .i64 0, .int .i64 0, .int .i64 0] 51)) (w.heap.size + 1) 51 [.int .i64 0, .int .i64 d4, .int .i64 0, .int .u16 0, .int .u16 0, .int .u16 0, .slice none 0 0, .slice none 0 0, .int .i64 0, .int .i64 0, .int .i64 0, .int .i64 0] := by
           have h := heap_alloc_new (w.alloc (.cells #[.int .i64 0, .int .i64 0, .int .i64 0, .int .u16 0, .int .u16 0, .int .u16 0, .slice none 0 0, .slice none 0 0, .int .i64 0, .int .i64 0, .int .i64 0, .int .i64 0] 51)) (.cells #[.int .i64 0, .int .i64 d4, .int .i64 0, .int .u16 0, .int .u16 0, .int .u16 0, .slice none 0 0, .slice none 0 0, .int .i64 0, .int .i64 0, .int .i64 0, .int .i64 0] 51)
           rwa [hs0] at h
         have hk2 := hk0.below ((Below.refl _ _).alloc (Nat.le_refl _) (.cells #[.int .i64 0, .int .i64 d4, .int .i64 0, .int .u16 0, .int .u16 0, .int .u16 0, .slice none 0 0, .slice none 0 0, .int .i64 0, .int .i64 0, .int .i64 0, .int .i64 0] 51)) (by simp)
         have h1 := hk1.below hb5 hk1.lt
         have h0 := hk2.below hb5 hk2.lt
         have HB5 : Hid (Below w.heap.size w w5) := (((Below.refl _ _).alloc (Nat.le_refl _) _).alloc (by simp) _).trans (hb5.mono (by simp; omega))
         have HO5 : Hid (w5.ownsRow (w.heap.size + 2) 28 1 (.slice B5 (1 + d2).toNat c5) (1 + d2).toNat ((upW (v % 60000) (1 + d2).toNat).map (Value.int .u16))) := own_mono ho5 (by simp)
         obtain ⟨hq0, hq1, hq2, hq3, hq4, hq5, hq6, hq7, hq8, hq9, hq10, hq11⟩ := cells12 h1
         obtain ⟨hp0, hp1, hp2, hp3, hp4, hp5, hp6, hp7, hp8, hp9, hp10, hp11⟩ := cells12 h0
         have hf0 := h1.frozen 0
         have hg0 := h0.frozen 0
         have hf1 := h1.frozen 1
         have hg1 := h0.frozen 1
         have hf2 := h1.frozen 2
         have hg2 := h0.frozen 2
         have hf3 := h1.frozen 3
         have hg3 := h0.frozen 3
         have hf4 := h1.frozen 4
         have hg4 := h0.frozen 4
         have hf5 := h1.frozen 5
         have hg5 := h0.frozen 5
         have hf6 := h1.frozen 6
         have hg6 := h0.frozen 6
         have hf7 := h1.frozen 7
         have hg7 := h0.frozen 7
         have hf8 := h1.frozen 8
         have hg8 := h0.frozen 8
         have hf9 := h1.frozen 9
         have hg9 := h0.frozen 9
         have hf10 := h1.frozen 10
         have hg10 := h0.frozen 10
         have hf11 := h1.frozen 11
         have hg11 := h0.frozen 11
         have hz5 : w.heap.size + 2 ≤ w5.heap.size := h1.lt
         have HH1 := Lib.hid h1
         have HH0 := Lib.hid h0
         clear hs0 hk0 hk1 hk2 h1 h0 hb5 ho5))
    obtain ⟨X, hX⟩ : ∃ X, (((((w5.setCell ⟨w.heap.size + 1, 0, none⟩ (.int .i64 23)).setCell ⟨w.heap.size + 1, 2, none⟩ (.int .i64 (1 + d2))).setCell ⟨w.heap.size + 1, 7, none⟩ (.slice B5 (1 + d2).toNat c5)).setCell ⟨w.heap.size + 1, 8, none⟩ (.int .i64 e1)).setCell ⟨w.heap.size + 1, 9, none⟩ (.int .i64 (1 + e2))) = X := ⟨_, rfl⟩
    have hx0 : WholeV X w.heap.size 51 [.int .i64 0, .int .i64 0, .int .i64 0, .int .u16 0, .int .u16 0, .int .u16 0, .slice none 0 0, .slice none 0 0, .int .i64 0, .int .i64 0, .int .i64 0, .int .i64 0] := by rw [← hX]; exact HH0.out.below ((((((Below.refl (w.heap.size + 1) w5).setCell (p := ⟨w.heap.size + 1, 0, none⟩) (Nat.le_refl _) (.int .i64 23)).setCell (p := ⟨w.heap.size + 1, 2, none⟩) (Nat.le_refl _) (.int .i64 (1 + d2))).setCell (p := ⟨w.heap.size + 1, 7, none⟩) (Nat.le_refl _) (.slice B5 (1 + d2).toNat c5)).setCell (p := ⟨w.heap.size + 1, 8, none⟩) (Nat.le_refl _) (.int .i64 e1)).setCell (p := ⟨w.heap.size + 1, 9, none⟩) (Nat.le_refl _) (.int .i64 (1 + e2))) (Nat.lt_succ_self _)
    have hxb : Below w.heap.size w X := by rw [← hX]; exact (((((HB5.out.setCell (p := ⟨w.heap.size + 1, 0, none⟩) (Nat.le_succ _) (.int .i64 23)).setCell (p := ⟨w.heap.size + 1, 2, none⟩) (Nat.le_succ _) (.int .i64 (1 + d2))).setCell (p := ⟨w.heap.size + 1, 7, none⟩) (Nat.le_succ _) (.slice B5 (1 + d2).toNat c5)).setCell (p := ⟨w.heap.size + 1, 8, none⟩) (Nat.le_succ _) (.int .i64 e1)).setCell (p := ⟨w.heap.size + 1, 9, none⟩) (Nat.le_succ _) (.int .i64 (1 + e2)))
    have hox : X.ownsRow (w.heap.size + 2) 28 1 (.slice B5 (1 + d2).toNat c5) (1 + d2).toNat ((upW (v % 60000) (1 + d2).toNat).map (Value.int .u16)) := by rw [← hX]; exact (own_far (own_far (own_far (own_far (own_far HO5.out ⟨w.heap.size + 1, 0, none⟩ (Nat.lt_succ_self _) (.int .i64 23)) ⟨w.heap.size + 1, 2, none⟩ (Nat.lt_succ_self _) (.int .i64 (1 + d2))) ⟨w.heap.size + 1, 7, none⟩ (Nat.lt_succ_self _) (.slice B5 (1 + d2).toNat c5)) ⟨w.heap.size + 1, 8, none⟩ (Nat.lt_succ_self _) (.int .i64 e1)) ⟨w.heap.size + 1, 9, none⟩ (Nat.lt_succ_self _) (.int .i64 (1 + e2)))
    rw [hX]
    obtain ⟨w9, hw9⟩ : ∃ w9, ((((((((((((X.setCell ⟨w.heap.size, 0, none⟩ (.int .i64 23)).setCell ⟨w.heap.size, 1, none⟩ (.int .i64 d4)).setCell ⟨w.heap.size, 2, none⟩ (.int .i64 (1 + d2))).setCell ⟨w.heap.size, 3, none⟩ (.int .u16 0)).setCell ⟨w.heap.size, 4, none⟩ (.int .u16 0)).setCell ⟨w.heap.size, 5, none⟩ (.int .u16 0)).setCell ⟨w.heap.size, 6, none⟩ (.slice none 0 0)).setCell ⟨w.heap.size, 7, none⟩ (.slice B5 (1 + d2).toNat c5)).setCell ⟨w.heap.size, 8, none⟩ (.int .i64 e1)).setCell ⟨w.heap.size, 9, none⟩ (.int .i64 (1 + e2))).setCell ⟨w.heap.size, 10, none⟩ (.int .i64 0)).setCell ⟨w.heap.size, 11, none⟩ (.int .i64 0)) = w9 := ⟨_, rfl⟩
    have hwh := all12 hx0 (.int .i64 23) (.int .i64 d4) (.int .i64 (1 + d2)) (.int .u16 0) (.int .u16 0) (.int .u16 0) (.slice none 0 0) (.slice B5 (1 + d2).toNat c5) (.int .i64 e1) (.int .i64 (1 + e2)) (.int .i64 0) (.int .i64 0) rfl
    have hbb := bel12 hxb (.int .i64 23) (.int .i64 d4) (.int .i64 (1 + d2)) (.int .u16 0) (.int .u16 0) (.int .u16 0) (.slice none 0 0) (.slice B5 (1 + d2).toNat c5) (.int .i64 e1) (.int .i64 (1 + e2)) (.int .i64 0) (.int .i64 0)
    have ho9 : w9.ownsRow (w.heap.size + 2) 28 1 (.slice B5 (1 + d2).toNat c5) (1 + d2).toNat ((upW (v % 60000) (1 + d2).toNat).map (Value.int .u16)) := by rw [← hw9]; exact (own_far (own_far (own_far (own_far (own_far (own_far (own_far (own_far (own_far (own_far (own_far (own_far hox ⟨w.heap.size, 0, none⟩ (Nat.lt_succ_of_lt (Nat.lt_succ_self _)) (.int .i64 23)) ⟨w.heap.size, 1, none⟩ (Nat.lt_succ_of_lt (Nat.lt_succ_self _)) (.int .i64 d4)) ⟨w.heap.size, 2, none⟩ (Nat.lt_succ_of_lt (Nat.lt_succ_self _)) (.int .i64 (1 + d2))) ⟨w.heap.size, 3, none⟩ (Nat.lt_succ_of_lt (Nat.lt_succ_self _)) (.int .u16 0)) ⟨w.heap.size, 4, none⟩ (Nat.lt_succ_of_lt (Nat.lt_succ_self _)) (.int .u16 0)) ⟨w.heap.size, 5, none⟩ (Nat.lt_succ_of_lt (Nat.lt_succ_self _)) (.int .u16 0)) ⟨w.heap.size, 6, none⟩ (Nat.lt_succ_of_lt (Nat.lt_succ_self _)) (.slice none 0 0)) ⟨w.heap.size, 7, none⟩ (Nat.lt_succ_of_lt (Nat.lt_succ_self _)) (.slice B5 (1 + d2).toNat c5)) ⟨w.heap.size, 8, none⟩ (Nat.lt_succ_of_lt (Nat.lt_succ_self _)) (.int .i64 e1)) ⟨w.heap.size, 9, none⟩ (Nat.lt_succ_of_lt (Nat.lt_succ_self _)) (.int .i64 (1 + e2))) ⟨w.heap.size, 10, none⟩ (Nat.lt_succ_of_lt (Nat.lt_succ_self _)) (.int .i64 0)) ⟨w.heap.size, 11, none⟩ (Nat.lt_succ_of_lt (Nat.lt_succ_self _)) (.int .i64 0))
    rw [hw9] at hwh hbb
    rw [hw9]
    obtain ⟨he0, he1, he2, he3, he4, he5, he6, he7, he8, he9, he10, he11⟩ := cells12 hwh
    refine bodyPost_ret (v := .agg #[.int .i64 23, .int .i64 d4, .int .i64 (1 + d2), .int .u16 0, .int .u16 0, .int .u16 0, .slice none 0 0, .slice B5 (1 + d2).toNat c5, .int .i64 e1, .int .i64 (1 + e2), .int .i64 0, .int .i64 0]) (by simp [results, Try.results22, go_sem, he0, he1, he2, he3, he4, he5, he6, he7, he8, he9, he10, he11]) rfl ⟨none, B5, 0, c5, rfl, own_none _ _ _, own_mono ho9 (by omega), hbb⟩

set_option maxRecDepth 100000 in
set_option maxHeartbeats 2000000 in
theorem lask_14b (k v : Int) (k0 : -9223372036854775808 ≤ k) (k1 : k ≤ 9223372036854775807) (v0 : -9223372036854775808 ≤ v) (v1 : v ≤ 9223372036854775807) (hq : k % 16 = 14) (h3' : ¬ ((k.tdiv 3840) % 12 = 0)) : AskIs k v := by
  obtain ⟨d1, hd1⟩ : ∃ z, (k.tdiv 16) % 40 = z := ⟨_, rfl⟩
  have d1l : 0 ≤ d1 := by omega
  have d1h : d1 < 40 := by omega
  have HD1 := Lib.hid hd1
  clear hd1
  obtain ⟨d2, hd2⟩ : ∃ z, (k.tdiv 640) % 6 = z := ⟨_, rfl⟩
  have d2l : 0 ≤ d2 := by omega
  have d2h : d2 < 6 := by omega
  have HD2 := Lib.hid hd2
  clear hd2
  obtain ⟨d3, hd3⟩ : ∃ z, (k.tdiv 3840) % 12 = z := ⟨_, rfl⟩
  have d3l : 0 ≤ d3 := by omega
  have d3h : d3 < 12 := by omega
  have HD3 := Lib.hid hd3
  have h3 : ¬ d3 = 0 := by rw [← hd3]; exact h3'
  clear h3'
  clear hd3
  obtain ⟨d4, hd4⟩ : ∃ z, (k.tdiv 46080) % 65536 = z := ⟨_, rfl⟩
  have d4l : 0 ≤ d4 := by omega
  have d4h : d4 < 65536 := by omega
  have HD4 := Lib.hid hd4
  clear hd4
  obtain ⟨e1, he1⟩ : ∃ z, v % 40 = z := ⟨_, rfl⟩
  have e1l : 0 ≤ e1 := by omega
  have e1h : e1 < 40 := by omega
  have HE1 := Lib.hid he1
  clear he1
  obtain ⟨e2, he2⟩ : ∃ z, (v.tdiv 40) % 6 = z := ⟨_, rfl⟩
  have e2l : 0 ≤ e2 := by omega
  have e2h : e2 < 6 := by omega
  have HE2 := Lib.hid he2
  clear he2
  have HQ := Lib.hid hq
  clear hq
  all_goals
    refine ⟨23, d1, (1 + d2), 0, 0, 0, 0, (1 + d2).toNat, e1, (1 + e2), 0, 0, [], upW (v % 60000) (1 + d2).toNat, ⟨⟨rfl, by unfold plainP; omega, by omega, by omega, by have m1 : kMostR 23 = 125 := rfl; have m2 : kMostW 23 = 121 := rfl; unfold fitsP; omega⟩, wide_of (by omega) (by omega) (by omega) (by omega) (by omega) (by omega) (by omega) (by omega) (by omega), upW_words _ _ (by omega) (by omega) (by omega), rfl, upW_length _ _⟩, fun w => ?_⟩
    go_enter Try.func22, Try.ntmps22
    go_wp2_with (first
      | (go_at_call 28; (with_reducible refine (digit_lit k 16 40 _ _ HD1.out k0 k1 (by omega) (by omega) (by omega) (by omega)).mono ?_); rintro e w' ⟨rfl, rfl⟩)
      | (go_at_call 28; (with_reducible refine (digit_lit k 640 6 _ _ HD2.out k0 k1 (by omega) (by omega) (by omega) (by omega)).mono ?_); rintro e w' ⟨rfl, rfl⟩)
      | (go_at_call 28; (with_reducible refine (digit_lit k 3840 12 _ _ HD3.out k0 k1 (by omega) (by omega) (by omega) (by omega)).mono ?_); rintro e w' ⟨rfl, rfl⟩)
      | (go_at_call 28; (with_reducible refine (digit_lit k 46080 65536 _ _ HD4.out k0 k1 (by omega) (by omega) (by omega) (by omega)).mono ?_); rintro e w' ⟨rfl, rfl⟩)
      | (go_at_call 11; (with_reducible refine (within_lit k 16 _ _ HQ.out k0 k1 (by omega) (by omega)).mono ?_); rintro e w' ⟨rfl, rfl⟩)
      | (go_at_call 11; (with_reducible refine (within_lit v 40 _ _ HE1.out v0 v1 (by omega) (by omega)).mono ?_); rintro e w' ⟨rfl, rfl⟩)
      | (go_at_call 28; (with_reducible refine (digit_lit v 40 6 _ _ HE2.out v0 v1 (by omega) (by omega) (by omega) (by omega)).mono ?_); rintro e w' ⟨rfl, rfl⟩)
      | (go_at_call 61
         (with_reducible refine (lwords_any v (1 + d2).toNat (1 + d2) _ (by omega) v0 v1 (by omega)).mono ?_)
         rintro e w5 ⟨B5, c5, rfl, ho5, hb5⟩
         have hs0 : (w.alloc (.cells #[.int .i64 0, .int .i64 0, .int .i64 0, .int .u16 0, .int .u16 0, .int .u16 0, .slice none 0 0, .slice none 0 0, .int .i64 0, .int .i64 0, .int .i64 0, .int .i64 0] 51)).heap.size = w.heap.size + 1 := by simp
         have hk0 : WholeV (w.alloc (.cells #[.int .i64 0, .int .i64 0, .int .i64 0, .int .u16 0, .int .u16 0, .int .u16 0, .slice none 0 0, .slice none 0 0, .int .i64 0, .int .i64 0, .int .i64 0, .int .i64 0] 51)) w.heap.size 51 [.int .i64 0, .int .i64 0, .int .i64 0, .int .u16 0, .int .u16 0, .int .u16 0, .slice none 0 0, .slice none 0 0, .int .i64 0, .int .i64 0, .int .i64 0, .int .i64 0] := heap_alloc_new w _
         have hk1 : WholeV ((w.alloc (.cells #[.int .i64 0, .int .i64 0, .int .i64 0, .int .u16 0, .int .u16 0, .int .u16 0, .slice none 0 0, .slice none 0 0, .int .i64 0, .int .i64 0, .int .i64 0, .int .i64 0] 51)).alloc (.cells #[.int .i64 0, .int .i64 d1, .int .i64 0, .int .u16 0, .int .u16 0, .int .u16 0, .slice none 0 0, .slice none 0 0, .int .i64 0, .int .i64 0, .int .i64 0, .int .i64 0] 51)) (w.heap.size + 1) 51 [.int .i64 0, .int .i64 d1, .int .i64 0, .int .u16 0, .int .u16 0, .int .u16 0, .slice none 0 0, .slice none 0 0, .int .i64 0, .int .i64 0, .int .i64 0, .int .i64 0] := by
           have h := heap_alloc_new (w.alloc (.cells #[.int .i64 0, .int .i64 0, .int .i64 0, .int .u16 0, .int .u16 0, .int .u16 0, .slice none 0 0, .slice none 0 0, .int .i64 0, .int .i64 0, .int .i64 0, .int .i64 0] 51)) (.cells #[.int .i64 0, .int .i64 d1, .int .i64 0, .int .u16 0, .int .u16 0, .int .u16 0, .slice none 0 0, .slice none 0 0, .int .i64 0, .int .i64 0, .int .i64 0, .int .i64 0] 51)
           rwa [hs0] at h
         have hk2 := hk0.below ((Below.refl _ _).alloc (Nat.le_refl _) (.cells #[.int .i64 0, .int .i64 d1, .int .i64 0, .int .u16 0, .int .u16 0, .int .u16 0, .slice none 0 0, .slice none 0 0, .int .i64 0, .int .i64 0, .int .i64 0, .int .i64 0] 51)) (by simp)
         have h1 := hk1.below hb5 hk1.lt
         have h0 := hk2.below hb5 hk2.lt
         have HB5 : Hid (Below w.heap.size w w5) := (((Below.refl _ _).alloc (Nat.le_refl _) _).alloc (by simp) _).trans (hb5.mono (by simp; omega))
         have HO5 : Hid (w5.ownsRow (w.heap.size + 2) 28 1 (.slice B5 (1 + d2).toNat c5) (1 + d2).toNat ((upW (v % 60000) (1 + d2).toNat).map (Value.int .u16))) := own_mono ho5 (by simp)
         obtain ⟨hq0, hq1, hq2, hq3, hq4, hq5, hq6, hq7, hq8, hq9, hq10, hq11⟩ := cells12 h1
         obtain ⟨hp0, hp1, hp2, hp3, hp4, hp5, hp6, hp7, hp8, hp9, hp10, hp11⟩ := cells12 h0
         have hf0 := h1.frozen 0
         have hg0 := h0.frozen 0
         have hf1 := h1.frozen 1
         have hg1 := h0.frozen 1
         have hf2 := h1.frozen 2
         have hg2 := h0.frozen 2
         have hf3 := h1.frozen 3
         have hg3 := h0.frozen 3
         have hf4 := h1.frozen 4
         have hg4 := h0.frozen 4
         have hf5 := h1.frozen 5
         have hg5 := h0.frozen 5
         have hf6 := h1.frozen 6
         have hg6 := h0.frozen 6
         have hf7 := h1.frozen 7
         have hg7 := h0.frozen 7
         have hf8 := h1.frozen 8
         have hg8 := h0.frozen 8
         have hf9 := h1.frozen 9
         have hg9 := h0.frozen 9
         have hf10 := h1.frozen 10
         have hg10 := h0.frozen 10
         have hf11 := h1.frozen 11
         have hg11 := h0.frozen 11
         have hz5 : w.heap.size + 2 ≤ w5.heap.size := h1.lt
         have HH1 := Lib.hid h1
         have HH0 := Lib.hid h0
         clear hs0 hk0 hk1 hk2 h1 h0 hb5 ho5))
    obtain ⟨X, hX⟩ : ∃ X, (((((w5.setCell ⟨w.heap.size + 1, 0, none⟩ (.int .i64 23)).setCell ⟨w.heap.size + 1, 2, none⟩ (.int .i64 (1 + d2))).setCell ⟨w.heap.size + 1, 7, none⟩ (.slice B5 (1 + d2).toNat c5)).setCell ⟨w.heap.size + 1, 8, none⟩ (.int .i64 e1)).setCell ⟨w.heap.size + 1, 9, none⟩ (.int .i64 (1 + e2))) = X := ⟨_, rfl⟩
    have hx0 : WholeV X w.heap.size 51 [.int .i64 0, .int .i64 0, .int .i64 0, .int .u16 0, .int .u16 0, .int .u16 0, .slice none 0 0, .slice none 0 0, .int .i64 0, .int .i64 0, .int .i64 0, .int .i64 0] := by rw [← hX]; exact HH0.out.below ((((((Below.refl (w.heap.size + 1) w5).setCell (p := ⟨w.heap.size + 1, 0, none⟩) (Nat.le_refl _) (.int .i64 23)).setCell (p := ⟨w.heap.size + 1, 2, none⟩) (Nat.le_refl _) (.int .i64 (1 + d2))).setCell (p := ⟨w.heap.size + 1, 7, none⟩) (Nat.le_refl _) (.slice B5 (1 + d2).toNat c5)).setCell (p := ⟨w.heap.size + 1, 8, none⟩) (Nat.le_refl _) (.int .i64 e1)).setCell (p := ⟨w.heap.size + 1, 9, none⟩) (Nat.le_refl _) (.int .i64 (1 + e2))) (Nat.lt_succ_self _)
    have hxb : Below w.heap.size w X := by rw [← hX]; exact (((((HB5.out.setCell (p := ⟨w.heap.size + 1, 0, none⟩) (Nat.le_succ _) (.int .i64 23)).setCell (p := ⟨w.heap.size + 1, 2, none⟩) (Nat.le_succ _) (.int .i64 (1 + d2))).setCell (p := ⟨w.heap.size + 1, 7, none⟩) (Nat.le_succ _) (.slice B5 (1 + d2).toNat c5)).setCell (p := ⟨w.heap.size + 1, 8, none⟩) (Nat.le_succ _) (.int .i64 e1)).setCell (p := ⟨w.heap.size + 1, 9, none⟩) (Nat.le_succ _) (.int .i64 (1 + e2)))
    have hox : X.ownsRow (w.heap.size + 2) 28 1 (.slice B5 (1 + d2).toNat c5) (1 + d2).toNat ((upW (v % 60000) (1 + d2).toNat).map (Value.int .u16)) := by rw [← hX]; exact (own_far (own_far (own_far (own_far (own_far HO5.out ⟨w.heap.size + 1, 0, none⟩ (Nat.lt_succ_self _) (.int .i64 23)) ⟨w.heap.size + 1, 2, none⟩ (Nat.lt_succ_self _) (.int .i64 (1 + d2))) ⟨w.heap.size + 1, 7, none⟩ (Nat.lt_succ_self _) (.slice B5 (1 + d2).toNat c5)) ⟨w.heap.size + 1, 8, none⟩ (Nat.lt_succ_self _) (.int .i64 e1)) ⟨w.heap.size + 1, 9, none⟩ (Nat.lt_succ_self _) (.int .i64 (1 + e2)))
    rw [hX]
    obtain ⟨w9, hw9⟩ : ∃ w9, ((((((((((((X.setCell ⟨w.heap.size, 0, none⟩ (.int .i64 23)).setCell ⟨w.heap.size, 1, none⟩ (.int .i64 d1)).setCell ⟨w.heap.size, 2, none⟩ (.int .i64 (1 + d2))).setCell ⟨w.heap.size, 3, none⟩ (.int .u16 0)).setCell ⟨w.heap.size, 4, none⟩ (.int .u16 0)).setCell ⟨w.heap.size, 5, none⟩ (.int .u16 0)).setCell ⟨w.heap.size, 6, none⟩ (.slice none 0 0)).setCell ⟨w.heap.size, 7, none⟩ (.slice B5 (1 + d2).toNat c5)).setCell ⟨w.heap.size, 8, none⟩ (.int .i64 e1)).setCell ⟨w.heap.size, 9, none⟩ (.int .i64 (1 + e2))).setCell ⟨w.heap.size, 10, none⟩ (.int .i64 0)).setCell ⟨w.heap.size, 11, none⟩ (.int .i64 0)) = w9 := ⟨_, rfl⟩
    have hwh := all12 hx0 (.int .i64 23) (.int .i64 d1) (.int .i64 (1 + d2)) (.int .u16 0) (.int .u16 0) (.int .u16 0) (.slice none 0 0) (.slice B5 (1 + d2).toNat c5) (.int .i64 e1) (.int .i64 (1 + e2)) (.int .i64 0) (.int .i64 0) rfl
    have hbb := bel12 hxb (.int .i64 23) (.int .i64 d1) (.int .i64 (1 + d2)) (.int .u16 0) (.int .u16 0) (.int .u16 0) (.slice none 0 0) (.slice B5 (1 + d2).toNat c5) (.int .i64 e1) (.int .i64 (1 + e2)) (.int .i64 0) (.int .i64 0)
    have ho9 : w9.ownsRow (w.heap.size + 2) 28 1 (.slice B5 (1 + d2).toNat c5) (1 + d2).toNat ((upW (v % 60000) (1 + d2).toNat).map (Value.int .u16)) := by rw [← hw9]; exact (own_far (own_far (own_far (own_far (own_far (own_far (own_far (own_far (own_far (own_far (own_far (own_far hox ⟨w.heap.size, 0, none⟩ (Nat.lt_succ_of_lt (Nat.lt_succ_self _)) (.int .i64 23)) ⟨w.heap.size, 1, none⟩ (Nat.lt_succ_of_lt (Nat.lt_succ_self _)) (.int .i64 d1)) ⟨w.heap.size, 2, none⟩ (Nat.lt_succ_of_lt (Nat.lt_succ_self _)) (.int .i64 (1 + d2))) ⟨w.heap.size, 3, none⟩ (Nat.lt_succ_of_lt (Nat.lt_succ_self _)) (.int .u16 0)) ⟨w.heap.size, 4, none⟩ (Nat.lt_succ_of_lt (Nat.lt_succ_self _)) (.int .u16 0)) ⟨w.heap.size, 5, none⟩ (Nat.lt_succ_of_lt (Nat.lt_succ_self _)) (.int .u16 0)) ⟨w.heap.size, 6, none⟩ (Nat.lt_succ_of_lt (Nat.lt_succ_self _)) (.slice none 0 0)) ⟨w.heap.size, 7, none⟩ (Nat.lt_succ_of_lt (Nat.lt_succ_self _)) (.slice B5 (1 + d2).toNat c5)) ⟨w.heap.size, 8, none⟩ (Nat.lt_succ_of_lt (Nat.lt_succ_self _)) (.int .i64 e1)) ⟨w.heap.size, 9, none⟩ (Nat.lt_succ_of_lt (Nat.lt_succ_self _)) (.int .i64 (1 + e2))) ⟨w.heap.size, 10, none⟩ (Nat.lt_succ_of_lt (Nat.lt_succ_self _)) (.int .i64 0)) ⟨w.heap.size, 11, none⟩ (Nat.lt_succ_of_lt (Nat.lt_succ_self _)) (.int .i64 0))
    rw [hw9] at hwh hbb
    rw [hw9]
    obtain ⟨he0, he1, he2, he3, he4, he5, he6, he7, he8, he9, he10, he11⟩ := cells12 hwh
    refine bodyPost_ret (v := .agg #[.int .i64 23, .int .i64 d1, .int .i64 (1 + d2), .int .u16 0, .int .u16 0, .int .u16 0, .slice none 0 0, .slice B5 (1 + d2).toNat c5, .int .i64 e1, .int .i64 (1 + e2), .int .i64 0, .int .i64 0]) (by simp [results, Try.results22, go_sem, he0, he1, he2, he3, he4, he5, he6, he7, he8, he9, he10, he11]) rfl ⟨none, B5, 0, c5, rfl, own_none _ _ _, own_mono ho9 (by omega), hbb⟩

end Go.Proofs.Ythmendcdfhlkkaa

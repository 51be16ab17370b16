/- Joined: End12 LAsk2 LAsk3 LAsk4. -/
import Derived.Test.YtielfekkonflfaaAskBox
import Derived.Test.YtielfekkonflfaaJTellBack2
import Derived.Test.YtielfekkonflfaaLAsk
import Derived.Test.YtielfekkonflfaaJTellBack5
import Derived.Test.YtielfekkonflfaaLentBits
import Derived.Deep.RegionLaw
namespace Go.Proofs.Ytielfekkonflfaa
open Go.ChangeShapes Go.WideShapes Go.ChangeAt Go.RowKit
set_option linter.unusedVariables false
set_option linter.unusedSimpArgs false

theorem info12 : (Try.prog.info? 48).map (·.size) = some 12 := by kernel_rfl
theorem load12 {w : World} {g : Nat} {T : TypeId} {b0 b1 b2 b3 b4 b5 b6 b7 b8 b9 b10 b11 : Value} (h : WholeV w g T [b0, b1, b2, b3, b4, b5, b6, b7, b8, b9, b10, b11]) : (loadVar 48 ⟨g, 0, none⟩).run Try.prog w = .ok (.agg #[b0, b1, b2, b3, b4, b5, b6, b7, b8, b9, b10, b11]) w := by
  cases hq : Try.prog.underlying 48 with
  | none => exact absurd hq (by rw [Try.underlying48]; simp)
  | some d =>
    have hd : d.isRow = true := by
      rw [Try.underlying48] at hq
      injection hq with hq
      subst hq
      rfl
    exact run_loadVar_mid w g 0 _ [b0, b1, b2, b3, b4, b5, b6, b7, b8, b9, b10, b11] d (fun j v hv => by rw [Nat.zero_add, h.cell j]; exact hv) hq hd info12
theorem kept12 (X : World) (g : Nat) (b0 b1 b2 b3 b4 b5 b6 b7 b8 b9 b10 b11 : Value) (k : Nat) (hk : k ≠ g) : ((((((((((((X.setCell ⟨g, 0, none⟩ b0).setCell ⟨g, 1, none⟩ b1).setCell ⟨g, 2, none⟩ b2).setCell ⟨g, 3, none⟩ b3).setCell ⟨g, 4, none⟩ b4).setCell ⟨g, 5, none⟩ b5).setCell ⟨g, 6, none⟩ b6).setCell ⟨g, 7, none⟩ b7).setCell ⟨g, 8, none⟩ b8).setCell ⟨g, 9, none⟩ b9).setCell ⟨g, 10, none⟩ b10).setCell ⟨g, 11, none⟩ b11).heap[k]? = X.heap[k]? := by
  have one : ∀ (w : World) (i : Nat) (v : Value), (w.setCell ⟨g, i, none⟩ v).heap[k]? = w.heap[k]? := fun w i v => Below.heap_setCell w ⟨g, i, none⟩ v k hk
  simp only [one]
theorem end12s {F : Func} {p : Tmp} (hF : F.results = #[.cell p 48]) {X : World} {g : Nat} {T : TypeId} {olds : List Value} (hx : WholeV X g T olds) (hl : olds.length = 12) {a : World} (hb : Below g a X)
    {tmps : Array Value} {b0 b1 b2 b3 b4 b5 b6 b7 b8 b9 b10 b11 : Value} {Q : Ending → World → Prop} (hp : tmps.getD p undef = .pointer (some ⟨g, 0, none⟩))
    (hQ : ∀ w9, Below g a w9 → (∀ k, k ≠ g → w9.heap[k]? = X.heap[k]?) → Q (.returned (.agg #[b0, b1, b2, b3, b4, b5, b6, b7, b8, b9, b10, b11])) w9) :
    bodyPost Try.prog F Q .ret ⟨tmps, []⟩ ((((((((((((X.setCell ⟨g, 0, none⟩ b0).setCell ⟨g, 1, none⟩ b1).setCell ⟨g, 2, none⟩ b2).setCell ⟨g, 3, none⟩ b3).setCell ⟨g, 4, none⟩ b4).setCell ⟨g, 5, none⟩ b5).setCell ⟨g, 6, none⟩ b6).setCell ⟨g, 7, none⟩ b7).setCell ⟨g, 8, none⟩ b8).setCell ⟨g, 9, none⟩ b9).setCell ⟨g, 10, none⟩ b10).setCell ⟨g, 11, none⟩ b11) := by
  refine bodyPost_ret (v := .agg #[b0, b1, b2, b3, b4, b5, b6, b7, b8, b9, b10, b11]) ?_ rfl (hQ _ (bel12 hb _ _ _ _ _ _ _ _ _ _ _ _) (kept12 X g _ _ _ _ _ _ _ _ _ _ _ _))
  have hld := load12 (all12 hx b0 b1 b2 b3 b4 b5 b6 b7 b8 b9 b10 b11 hl)
  rw [Array.getD_eq_getD_getElem?] at hp
  simp [results, hF, Sem.run_bind, Result.andThen, hp, hld, asAddr]

set_option maxRecDepth 100000 in
set_option maxHeartbeats 2000000 in
theorem lask_11a (k v : Int) (k0 : -9223372036854775808 ≤ k) (k1 : k ≤ 9223372036854775807) (v0 : -9223372036854775808 ≤ v) (v1 : v ≤ 9223372036854775807) (hq : k % 16 = 11) (h3' : ((k.tdiv 3840) % 12 = 0)) : AskIs k v := by
  obtain ⟨d1, hd1⟩ : ∃ z, (k.tdiv 16) % 40 = z := ⟨_, rfl⟩
  have d1l : 0 ≤ d1 := by omega
  have d1h : d1 < 40 := by omega
  have HD1 := Lib.hid hd1
  clear hd1
  obtain ⟨d2, hd2⟩ : ∃ z, (k.tdiv 640) % 6 = z := ⟨_, rfl⟩
  have d2l : 0 ≤ d2 := by omega
  have d2h : d2 < 6 := by omega
  have HD2 := Lib.hid hd2
  clear hd2
  obtain ⟨d3, hd3⟩ : ∃ z, (k.tdiv 3840) % 12 = z := ⟨_, rfl⟩
  have d3l : 0 ≤ d3 := by omega
  have d3h : d3 < 12 := by omega
  have HD3 := Lib.hid hd3
  have h3 : d3 = 0 := by rw [← hd3]; exact h3'
  clear h3'
  clear hd3
  obtain ⟨d4, hd4⟩ : ∃ z, (k.tdiv 46080) % 65536 = z := ⟨_, rfl⟩
  have d4l : 0 ≤ d4 := by omega
  have d4h : d4 < 65536 := by omega
  have HD4 := Lib.hid hd4
  clear hd4
  have HQ := Lib.hid hq
  clear hq
  all_goals
    refine ⟨16, d4, (1 + d2), 0, 0, 0, 0, (1 + d2).toNat, 0, 0, 0, 0, [], upW (v % 60000) (1 + d2).toNat, ⟨⟨rfl, by unfold plainP; omega, by omega, by omega, by have m1 : kMostR 16 = 0 := rfl; have m2 : kMostW 16 = 123 := rfl; unfold fitsP; omega⟩, wide_of (by omega) (by omega) (by omega) (by omega) (by omega) (by omega) (by omega) (by omega) (by omega), upW_words _ _ (by omega) (by omega) (by omega), rfl, upW_length _ _⟩, fun w => ?_⟩
    go_enter Try.func15, Try.ntmps15
    go_wp2_with (first
      | (go_at_call 19; (with_reducible refine (digit_lit k 16 40 _ _ HD1.out k0 k1 (by omega) (by omega) (by omega) (by omega)).mono ?_); rintro e w' ⟨rfl, rfl⟩)
      | (go_at_call 19; (with_reducible refine (digit_lit k 640 6 _ _ HD2.out k0 k1 (by omega) (by omega) (by omega) (by omega)).mono ?_); rintro e w' ⟨rfl, rfl⟩)
      | (go_at_call 19; (with_reducible refine (digit_lit k 3840 12 _ _ HD3.out k0 k1 (by omega) (by omega) (by omega) (by omega)).mono ?_); rintro e w' ⟨rfl, rfl⟩)
      | (go_at_call 19; (with_reducible refine (digit_lit k 46080 65536 _ _ HD4.out k0 k1 (by omega) (by omega) (by omega) (by omega)).mono ?_); rintro e w' ⟨rfl, rfl⟩)
      | (go_at_call 11; (with_reducible refine (within_lit k 16 _ _ HQ.out k0 k1 (by omega) (by omega)).mono ?_); rintro e w' ⟨rfl, rfl⟩)
      | (go_at_call 40
         (with_reducible refine (lwords_any v (1 + d2).toNat (1 + d2) _ (by omega) v0 v1 (by omega)).mono ?_)
         rintro e w5 ⟨B5, c5, rfl, ho5, hb5⟩
         have hs0 : (w.alloc (.cells #[.int .i64 0, .int .i64 0, .int .i64 0, .int .u16 0, .int .u16 0, .int .u16 0, .slice none 0 0, .slice none 0 0, .int .i64 0, .int .i64 0, .int .i64 0, .int .i64 0] 48)).heap.size = w.heap.size + 1 := by simp
         have hk0 : WholeV (w.alloc (.cells #[.int .i64 0, .int .i64 0, .int .i64 0, .int .u16 0, .int .u16 0, .int .u16 0, .slice none 0 0, .slice none 0 0, .int .i64 0, .int .i64 0, .int .i64 0, .int .i64 0] 48)) w.heap.size 48 [.int .i64 0, .int .i64 0, .int .i64 0, .int .u16 0, .int .u16 0, .int .u16 0, .slice none 0 0, .slice none 0 0, .int .i64 0, .int .i64 0, .int .i64 0, .int .i64 0] := heap_alloc_new w _
         have hk1 : WholeV ((w.alloc (.cells #[.int .i64 0, .int .i64 0, .int .i64 0, .int .u16 0, .int .u16 0, .int .u16 0, .slice none 0 0, .slice none 0 0, .int .i64 0, .int .i64 0, .int .i64 0, .int .i64 0] 48)).alloc (.cells #[.int .i64 0, .int .i64 d4, .int .i64 0, .int .u16 0, .int .u16 0, .int .u16 0, .slice none 0 0, .slice none 0 0, .int .i64 0, .int .i64 0, .int .i64 0, .int .i64 0] 48)) (w.heap.size + 1) 48 [.int .i64 0, .int .i64 d4, .int .i64 0, .int .u16 0, .int .u16 0, .int .u16 0, .slice none 0 0, .slice none 0 0, .int .i64 0, .int .i64 0, .int .i64 0, .int .i64 0] := by
           have h := heap_alloc_new (w.alloc (.cells #[.int .i64 0, .int .i64 0, .int .i64 0, .int .u16 0, .int .u16 0, .int .u16 0, .slice none 0 0, .slice none 0 0, .int .i64 0, .int .i64 0, .int .i64 0, .int .i64 0] 48)) (.cells #[.int .i64 0, .int .i64 d4, .int .i64 0, .int .u16 0, .int .u16 0, .int .u16 0, .slice none 0 0, .slice none 0 0, .int .i64 0, .int .i64 0, .int .i64 0, .int .i64 0] 48)
           rwa [hs0] at h
         have hk2 := hk0.below ((Below.refl _ _).alloc (Nat.le_refl _) (.cells #[.int .i64 0, .int .i64 d4, .int .i64 0, .int .u16 0, .int .u16 0, .int .u16 0, .slice none 0 0, .slice none 0 0, .int .i64 0, .int .i64 0, .int .i64 0, .int .i64 0] 48)) (by simp)
         have h1 := hk1.below hb5 hk1.lt
         have h0 := hk2.below hb5 hk2.lt
         have HB5 : Hid (Below w.heap.size w w5) := (((Below.refl _ _).alloc (Nat.le_refl _) _).alloc (by simp) _).trans (hb5.mono (by simp; omega))
         have HO5 : Hid (w5.ownsRow (w.heap.size + 2) 25 1 (.slice B5 (1 + d2).toNat c5) (1 + d2).toNat ((upW (v % 60000) (1 + d2).toNat).map (Value.int .u16))) := own_mono ho5 (by simp)
         obtain ⟨hq0, hq1, hq2, hq3, hq4, hq5, hq6, hq7, hq8, hq9, hq10, hq11⟩ := cells12 h1
         obtain ⟨hp0, hp1, hp2, hp3, hp4, hp5, hp6, hp7, hp8, hp9, hp10, hp11⟩ := cells12 h0
         have hf0 := h1.frozen 0
         have hg0 := h0.frozen 0
         have hf1 := h1.frozen 1
         have hg1 := h0.frozen 1
         have hf2 := h1.frozen 2
         have hg2 := h0.frozen 2
         have hf3 := h1.frozen 3
         have hg3 := h0.frozen 3
         have hf4 := h1.frozen 4
         have hg4 := h0.frozen 4
         have hf5 := h1.frozen 5
         have hg5 := h0.frozen 5
         have hf6 := h1.frozen 6
         have hg6 := h0.frozen 6
         have hf7 := h1.frozen 7
         have hg7 := h0.frozen 7
         have hf8 := h1.frozen 8
         have hg8 := h0.frozen 8
         have hf9 := h1.frozen 9
         have hg9 := h0.frozen 9
         have hf10 := h1.frozen 10
         have hg10 := h0.frozen 10
         have hf11 := h1.frozen 11
         have hg11 := h0.frozen 11
         have hz5 : w.heap.size + 2 ≤ w5.heap.size := h1.lt
         have HH1 := Lib.hid h1
         have HH0 := Lib.hid h0
         clear hs0 hk0 hk1 hk2 h1 h0 hb5 ho5))
    obtain ⟨X, hX⟩ : ∃ X, (((w5.setCell ⟨w.heap.size + 1, 0, none⟩ (.int .i64 16)).setCell ⟨w.heap.size + 1, 2, none⟩ (.int .i64 (1 + d2))).setCell ⟨w.heap.size + 1, 7, none⟩ (.slice B5 (1 + d2).toNat c5)) = X := ⟨_, rfl⟩
    have hx0 : WholeV X w.heap.size 48 [.int .i64 0, .int .i64 0, .int .i64 0, .int .u16 0, .int .u16 0, .int .u16 0, .slice none 0 0, .slice none 0 0, .int .i64 0, .int .i64 0, .int .i64 0, .int .i64 0] := by rw [← hX]; exact HH0.out.below ((((Below.refl (w.heap.size + 1) w5).setCell (p := ⟨w.heap.size + 1, 0, none⟩) (Nat.le_refl _) (.int .i64 16)).setCell (p := ⟨w.heap.size + 1, 2, none⟩) (Nat.le_refl _) (.int .i64 (1 + d2))).setCell (p := ⟨w.heap.size + 1, 7, none⟩) (Nat.le_refl _) (.slice B5 (1 + d2).toNat c5)) (Nat.lt_succ_self _)
    have hxb : Below w.heap.size w X := by rw [← hX]; exact (((HB5.out.setCell (p := ⟨w.heap.size + 1, 0, none⟩) (Nat.le_succ _) (.int .i64 16)).setCell (p := ⟨w.heap.size + 1, 2, none⟩) (Nat.le_succ _) (.int .i64 (1 + d2))).setCell (p := ⟨w.heap.size + 1, 7, none⟩) (Nat.le_succ _) (.slice B5 (1 + d2).toNat c5))
    have hox : X.ownsRow (w.heap.size + 2) 25 1 (.slice B5 (1 + d2).toNat c5) (1 + d2).toNat ((upW (v % 60000) (1 + d2).toNat).map (Value.int .u16)) := by rw [← hX]; exact (own_far (own_far (own_far HO5.out ⟨w.heap.size + 1, 0, none⟩ (Nat.lt_succ_self _) (.int .i64 16)) ⟨w.heap.size + 1, 2, none⟩ (Nat.lt_succ_self _) (.int .i64 (1 + d2))) ⟨w.heap.size + 1, 7, none⟩ (Nat.lt_succ_self _) (.slice B5 (1 + d2).toNat c5))
    rw [hX]
    exact end12s Try.results15 hx0 rfl hxb rfl fun w9 hbb hk => ⟨none, B5, 0, c5, rfl, own_none _ _ _, own_mono (own_blk hox hk (show w.heap.size < w.heap.size + 2 by omega)) (by omega), hbb⟩

set_option maxRecDepth 100000 in
set_option maxHeartbeats 2000000 in
theorem lask_11b (k v : Int) (k0 : -9223372036854775808 ≤ k) (k1 : k ≤ 9223372036854775807) (v0 : -9223372036854775808 ≤ v) (v1 : v ≤ 9223372036854775807) (hq : k % 16 = 11) (h3' : ¬ ((k.tdiv 3840) % 12 = 0)) : AskIs k v := by
  obtain ⟨d1, hd1⟩ : ∃ z, (k.tdiv 16) % 40 = z := ⟨_, rfl⟩
  have d1l : 0 ≤ d1 := by omega
  have d1h : d1 < 40 := by omega
  have HD1 := Lib.hid hd1
  clear hd1
  obtain ⟨d2, hd2⟩ : ∃ z, (k.tdiv 640) % 6 = z := ⟨_, rfl⟩
  have d2l : 0 ≤ d2 := by omega
  have d2h : d2 < 6 := by omega
  have HD2 := Lib.hid hd2
  clear hd2
  obtain ⟨d3, hd3⟩ : ∃ z, (k.tdiv 3840) % 12 = z := ⟨_, rfl⟩
  have d3l : 0 ≤ d3 := by omega
  have d3h : d3 < 12 := by omega
  have HD3 := Lib.hid hd3
  have h3 : ¬ d3 = 0 := by rw [← hd3]; exact h3'
  clear h3'
  clear hd3
  obtain ⟨d4, hd4⟩ : ∃ z, (k.tdiv 46080) % 65536 = z := ⟨_, rfl⟩
  have d4l : 0 ≤ d4 := by omega
  have d4h : d4 < 65536 := by omega
  have HD4 := Lib.hid hd4
  clear hd4
  have HQ := Lib.hid hq
  clear hq
  all_goals
    refine ⟨16, d1, (1 + d2), 0, 0, 0, 0, (1 + d2).toNat, 0, 0, 0, 0, [], upW (v % 60000) (1 + d2).toNat, ⟨⟨rfl, by unfold plainP; omega, by omega, by omega, by have m1 : kMostR 16 = 0 := rfl; have m2 : kMostW 16 = 123 := rfl; unfold fitsP; omega⟩, wide_of (by omega) (by omega) (by omega) (by omega) (by omega) (by omega) (by omega) (by omega) (by omega), upW_words _ _ (by omega) (by omega) (by omega), rfl, upW_length _ _⟩, fun w => ?_⟩
    go_enter Try.func15, Try.ntmps15
    go_wp2_with (first
      | (go_at_call 19; (with_reducible refine (digit_lit k 16 40 _ _ HD1.out k0 k1 (by omega) (by omega) (by omega) (by omega)).mono ?_); rintro e w' ⟨rfl, rfl⟩)
      | (go_at_call 19; (with_reducible refine (digit_lit k 640 6 _ _ HD2.out k0 k1 (by omega) (by omega) (by omega) (by omega)).mono ?_); rintro e w' ⟨rfl, rfl⟩)
      | (go_at_call 19; (with_reducible refine (digit_lit k 3840 12 _ _ HD3.out k0 k1 (by omega) (by omega) (by omega) (by omega)).mono ?_); rintro e w' ⟨rfl, rfl⟩)
      | (go_at_call 19; (with_reducible refine (digit_lit k 46080 65536 _ _ HD4.out k0 k1 (by omega) (by omega) (by omega) (by omega)).mono ?_); rintro e w' ⟨rfl, rfl⟩)
      | (go_at_call 11; (with_reducible refine (within_lit k 16 _ _ HQ.out k0 k1 (by omega) (by omega)).mono ?_); rintro e w' ⟨rfl, rfl⟩)
      | (go_at_call 40
         (with_reducible refine (lwords_any v (1 + d2).toNat (1 + d2) _ (by omega) v0 v1 (by omega)).mono ?_)
         rintro e w5 ⟨B5, c5, rfl, ho5, hb5⟩
         have hs0 : (w.alloc (.cells #[.int .i64 0, .int .i64 0, .int .i64 0, .int .u16 0, .int .u16 0, .int .u16 0, .slice none 0 0, .slice none 0 0, .int .i64 0, .int .i64 0, .int .i64 0, .int .i64 0] 48)).heap.size = w.heap.size + 1 := by simp
         have hk0 : WholeV (w.alloc (.cells #[.int .i64 0, .int .i64 0, .int .i64 0, .int .u16 0, .int .u16 0, .int .u16 0, .slice none 0 0, .slice none 0 0, .int .i64 0, .int .i64 0, .int .i64 0, .int .i64 0] 48)) w.heap.size 48 [.int .i64 0, .int .i64 0, .int .i64 0, .int .u16 0, .int .u16 0, .int .u16 0, .slice none 0 0, .slice none 0 0, .int .i64 0, .int .i64 0, .int .i64 0, .int .i64 0] := heap_alloc_new w _
         have hk1 : WholeV ((w.alloc (.cells #[.int .i64 0, .int .i64 0, .int .i64 0, .int .u16 0, .int .u16 0, .int .u16 0, .slice none 0 0, .slice none 0 0, .int .i64 0, .int .i64 0, .int .i64 0, .int .i64 0] 48)).alloc (.cells #[.int .i64 0, .int .i64 d1, .int .i64 0, .int .u16 0, .int .u16 0, .int .u16 0, .slice none 0 0, .slice none 0 0, .int .i64 0, .int .i64 0, .int .i64 0, .int .i64 0] 48)) (w.heap.size + 1) 48 [.int .i64 0, .int .i64 d1, .int .i64 0, .int .u16 0, .int .u16 0, .int .u16 0, .slice none 0 0, .slice none 0 0, .int .i64 0, .int .i64 0, .int .i64 0, .int .i64 0] := by
           have h := heap_alloc_new (w.alloc (.cells #[.int .i64 0, .int .i64 0, .int .i64 0, .int .u16 0, .int .u16 0, .int .u16 0, .slice none 0 0, .slice none 0 0, .int .i64 0, .int .i64 0, .int .i64 0, .int .i64 0] 48)) (.cells #[.int .i64 0, .int .i64 d1, .int .i64 0, .int .u16 0, .int .u16 0, .int .u16 0, .slice none 0 0, .slice none 0 0, .int .i64 0, .int .i64 0, .int .i64 0, .int .i64 0] 48)
           rwa [hs0] at h
         have hk2 := hk0.below ((Below.refl _ _).alloc (Nat.le_refl _) (.cells #[.int .i64 0, .int .i64 d1, .int .i64 0, .int .u16 0, .int .u16 0, .int .u16 0, .slice none 0 0, .slice none 0 0, .int .i64 0, .int .i64 0, .int .i64 0, .int .i64 0] 48)) (by simp)
         have h1 := hk1.below hb5 hk1.lt
         have h0 := hk2.below hb5 hk2.lt
         have HB5 : Hid (Below w.heap.size w w5) := (((Below.refl _ _).alloc (Nat.le_refl _) _).alloc (by simp) _).trans (hb5.mono (by simp; omega))
         have HO5 : Hid (w5.ownsRow (w.heap.size + 2) 25 1 (.slice B5 (1 + d2).toNat c5) (1 + d2).toNat ((upW (v % 60000) (1 + d2).toNat).map (Value.int .u16))) := own_mono ho5 (by simp)
         obtain ⟨hq0, hq1, hq2, hq3, hq4, hq5, hq6, hq7, hq8, hq9, hq10, hq11⟩ := cells12 h1
         obtain ⟨hp0, hp1, hp2, hp3, hp4, hp5, hp6, hp7, hp8, hp9, hp10, hp11⟩ := cells12 h0
         have hf0 := h1.frozen 0
         have hg0 := h0.frozen 0
         have hf1 := h1.frozen 1
         have hg1 := h0.frozen 1
         have hf2 := h1.frozen 2
         have hg2 := h0.frozen 2
         have hf3 := h1.frozen 3
         have hg3 := h0.frozen 3
         have hf4 := h1.frozen 4
         have hg4 := h0.frozen 4
         have hf5 := h1.frozen 5
         have hg5 := h0.frozen 5
         have hf6 := h1.frozen 6
         have hg6 := h0.frozen 6
         have hf7 := h1.frozen 7
         have hg7 := h0.frozen 7
         have hf8 := h1.frozen 8
         have hg8 := h0.frozen 8
         have hf9 := h1.frozen 9
         have hg9 := h0.frozen 9
         have hf10 := h1.frozen 10
         have hg10 := h0.frozen 10
         have hf11 := h1.frozen 11
         have hg11 := h0.frozen 11
         have hz5 : w.heap.size + 2 ≤ w5.heap.size := h1.lt
         have HH1 := Lib.hid h1
         have HH0 := Lib.hid h0
         clear hs0 hk0 hk1 hk2 h1 h0 hb5 ho5))
    obtain ⟨X, hX⟩ : ∃ X, (((w5.setCell ⟨w.heap.size + 1, 0, none⟩ (.int .i64 16)).setCell ⟨w.heap.size + 1, 2, none⟩ (.int .i64 (1 + d2))).setCell ⟨w.heap.size + 1, 7, none⟩ (.slice B5 (1 + d2).toNat c5)) = X := ⟨_, rfl⟩
    have hx0 : WholeV X w.heap.size 48 [.int .i64 0, .int .i64 0, .int .i64 0, .int .u16 0, .int .u16 0, .int .u16 0, .slice none 0 0, .slice none 0 0, .int .i64 0, .int .i64 0, .int .i64 0, .int .i64 0] := by rw [← hX]; exact HH0.out.below ((((Below.refl (w.heap.size + 1) w5).setCell (p := ⟨w.heap.size + 1, 0, none⟩) (Nat.le_refl _) (.int .i64 16)).setCell (p := ⟨w.heap.size + 1, 2, none⟩) (Nat.le_refl _) (.int .i64 (1 + d2))).setCell (p := ⟨w.heap.size + 1, 7, none⟩) (Nat.le_refl _) (.slice B5 (1 + d2).toNat c5)) (Nat.lt_succ_self _)
    have hxb : Below w.heap.size w X := by rw [← hX]; exact (((HB5.out.setCell (p := ⟨w.heap.size + 1, 0, none⟩) (Nat.le_succ _) (.int .i64 16)).setCell (p := ⟨w.heap.size + 1, 2, none⟩) (Nat.le_succ _) (.int .i64 (1 + d2))).setCell (p := ⟨w.heap.size + 1, 7, none⟩) (Nat.le_succ _) (.slice B5 (1 + d2).toNat c5))
    have hox : X.ownsRow (w.heap.size + 2) 25 1 (.slice B5 (1 + d2).toNat c5) (1 + d2).toNat ((upW (v % 60000) (1 + d2).toNat).map (Value.int .u16)) := by rw [← hX]; exact (own_far (own_far (own_far HO5.out ⟨w.heap.size + 1, 0, none⟩ (Nat.lt_succ_self _) (.int .i64 16)) ⟨w.heap.size + 1, 2, none⟩ (Nat.lt_succ_self _) (.int .i64 (1 + d2))) ⟨w.heap.size + 1, 7, none⟩ (Nat.lt_succ_self _) (.slice B5 (1 + d2).toNat c5))
    rw [hX]
    exact end12s Try.results15 hx0 rfl hxb rfl fun w9 hbb hk => ⟨none, B5, 0, c5, rfl, own_none _ _ _, own_mono (own_blk hox hk (show w.heap.size < w.heap.size + 2 by omega)) (by omega), hbb⟩

set_option maxRecDepth 100000 in
set_option maxHeartbeats 2000000 in
theorem lask_12a (k v : Int) (k0 : -9223372036854775808 ≤ k) (k1 : k ≤ 9223372036854775807) (v0 : -9223372036854775808 ≤ v) (v1 : v ≤ 9223372036854775807) (hq : k % 16 = 12) (h3' : ((k.tdiv 3840) % 12 = 0)) : AskIs k v := by
  obtain ⟨d1, hd1⟩ : ∃ z, (k.tdiv 16) % 40 = z := ⟨_, rfl⟩
  have d1l : 0 ≤ d1 := by omega
  have d1h : d1 < 40 := by omega
  have HD1 := Lib.hid hd1
  clear hd1
  obtain ⟨d2, hd2⟩ : ∃ z, (k.tdiv 640) % 6 = z := ⟨_, rfl⟩
  have d2l : 0 ≤ d2 := by omega
  have d2h : d2 < 6 := by omega
  have HD2 := Lib.hid hd2
  clear hd2
  obtain ⟨d3, hd3⟩ : ∃ z, (k.tdiv 3840) % 12 = z := ⟨_, rfl⟩
  have d3l : 0 ≤ d3 := by omega
  have d3h : d3 < 12 := by omega
  have HD3 := Lib.hid hd3
  have h3 : d3 = 0 := by rw [← hd3]; exact h3'
  clear h3'
  clear hd3
  obtain ⟨d4, hd4⟩ : ∃ z, (k.tdiv 46080) % 65536 = z := ⟨_, rfl⟩
  have d4l : 0 ≤ d4 := by omega
  have d4h : d4 < 65536 := by omega
  have HD4 := Lib.hid hd4
  clear hd4
  have HQ := Lib.hid hq
  clear hq
  all_goals
    refine ⟨16, d4, (1 + d2), 0, 0, 0, 0, (1 + d2).toNat, 0, 0, 0, 0, [], upW (v % 60000) (1 + d2).toNat, ⟨⟨rfl, by unfold plainP; omega, by omega, by omega, by have m1 : kMostR 16 = 0 := rfl; have m2 : kMostW 16 = 123 := rfl; unfold fitsP; omega⟩, wide_of (by omega) (by omega) (by omega) (by omega) (by omega) (by omega) (by omega) (by omega) (by omega), upW_words _ _ (by omega) (by omega) (by omega), rfl, upW_length _ _⟩, fun w => ?_⟩
    go_enter Try.func15, Try.ntmps15
    go_wp2_with (first
      | (go_at_call 19; (with_reducible refine (digit_lit k 16 40 _ _ HD1.out k0 k1 (by omega) (by omega) (by omega) (by omega)).mono ?_); rintro e w' ⟨rfl, rfl⟩)
      | (go_at_call 19; (with_reducible refine (digit_lit k 640 6 _ _ HD2.out k0 k1 (by omega) (by omega) (by omega) (by omega)).mono ?_); rintro e w' ⟨rfl, rfl⟩)
      | (go_at_call 19; (with_reducible refine (digit_lit k 3840 12 _ _ HD3.out k0 k1 (by omega) (by omega) (by omega) (by omega)).mono ?_); rintro e w' ⟨rfl, rfl⟩)
      | (go_at_call 19; (with_reducible refine (digit_lit k 46080 65536 _ _ HD4.out k0 k1 (by omega) (by omega) (by omega) (by omega)).mono ?_); rintro e w' ⟨rfl, rfl⟩)
      | (go_at_call 11; (with_reducible refine (within_lit k 16 _ _ HQ.out k0 k1 (by omega) (by omega)).mono ?_); rintro e w' ⟨rfl, rfl⟩)
      | (go_at_call 40
         (with_reducible refine (lwords_any v (1 + d2).toNat (1 + d2) _ (by omega) v0 v1 (by omega)).mono ?_)
         rintro e w5 ⟨B5, c5, rfl, ho5, hb5⟩
         have hs0 : (w.alloc (.cells #[.int .i64 0, .int .i64 0, .int .i64 0, .int .u16 0, .int .u16 0, .int .u16 0, .slice none 0 0, .slice none 0 0, .int .i64 0, .int .i64 0, .int .i64 0, .int .i64 0] 48)).heap.size = w.heap.size + 1 := by simp
         have hk0 : WholeV (w.alloc (.cells #[.int .i64 0, .int .i64 0, .int .i64 0, .int .u16 0, .int .u16 0, .int .u16 0, .slice none 0 0, .slice none 0 0, .int .i64 0, .int .i64 0, .int .i64 0, .int .i64 0] 48)) w.heap.size 48 [.int .i64 0, .int .i64 0, .int .i64 0, .int .u16 0, .int .u16 0, .int .u16 0, .slice none 0 0, .slice none 0 0, .int .i64 0, .int .i64 0, .int .i64 0, .int .i64 0] := heap_alloc_new w _
         have hk1 : WholeV ((w.alloc (.cells #[.int .i64 0, .int .i64 0, .int .i64 0, .int .u16 0, .int .u16 0, .int .u16 0, .slice none 0 0, .slice none 0 0, .int .i64 0, .int .i64 0, .int .i64 0, .int .i64 0] 48)).alloc (.cells #[.int .i64 0, .int .i64 d4, .int .i64 0, .int .u16 0, .int .u16 0, .int .u16 0, .slice none 0 0, .slice none 0 0, .int .i64 0, .int .i64 0, .int .i64 0, .int .i64 0] 48)) (w.heap.size + 1) 48 [.int .i64 0, .int .i64 d4, .int .i64 0, .int .u16 0, .int .u16 0, .int .u16 0, .slice none 0 0, .slice none 0 0, .int .i64 0, .int .i64 0, .int .i64 0, .int .i64 0] := by
           have h := heap_alloc_new (w.alloc (.cells #[.int .i64 0, .int .i64 0, .int .i64 0, .int .u16 0, .int .u16 0, .int .u16 0, .slice none 0 0, .slice none 0 0, .int .i64 0, .int .i64 0, .int .i64 0, .int .i64 0] 48)) (.cells #[.int .i64 0, .int .i64 d4, .int .i64 0, .int .u16 0, .int .u16 0, .int .u16 0, .slice none 0 0, .slice none 0 0, .int .i64 0, .int .i64 0, .int .i64 0, .int .i64 0] 48)
           rwa [hs0] at h
         have hk2 := hk0.below ((Below.refl _ _).alloc (Nat.le_refl _) (.cells #[.int .i64 0, .int .i64 d4, .int .i64 0, .int .u16 0, .int .u16 0, .int .u16 0, .slice none 0 0, .slice none 0 0, .int .i64 0, .int .i64 0, .int .i64 0, .int .i64 0] 48)) (by simp)
         have h1 := hk1.below hb5 hk1.lt
         have h0 := hk2.below hb5 hk2.lt
         have HB5 : Hid (Below w.heap.size w w5) := (((Below.refl _ _).alloc (Nat.le_refl _) _).alloc (by simp) _).trans (hb5.mono (by simp; omega))
         have HO5 : Hid (w5.ownsRow (w.heap.size + 2) 25 1 (.slice B5 (1 + d2).toNat c5) (1 + d2).toNat ((upW (v % 60000) (1 + d2).toNat).map (Value.int .u16))) := own_mono ho5 (by simp)
         obtain ⟨hq0, hq1, hq2, hq3, hq4, hq5, hq6, hq7, hq8, hq9, hq10, hq11⟩ := cells12 h1
         obtain ⟨hp0, hp1, hp2, hp3, hp4, hp5, hp6, hp7, hp8, hp9, hp10, hp11⟩ := cells12 h0
         have hf0 := h1.frozen 0
         have hg0 := h0.frozen 0
         have hf1 := h1.frozen 1
         have hg1 := h0.frozen 1
         have hf2 := h1.frozen 2
         have hg2 := h0.frozen 2
         have hf3 := h1.frozen 3
         have hg3 := h0.frozen 3
         have hf4 := h1.frozen 4
         have hg4 := h0.frozen 4
         have hf5 := h1.frozen 5
         have hg5 := h0.frozen 5
         have hf6 := h1.frozen 6
         have hg6 := h0.frozen 6
         have hf7 := h1.frozen 7
         have hg7 := h0.frozen 7
         have hf8 := h1.frozen 8
         have hg8 := h0.frozen 8
         have hf9 := h1.frozen 9
         have hg9 := h0.frozen 9
         have hf10 := h1.frozen 10
         have hg10 := h0.frozen 10
         have hf11 := h1.frozen 11
         have hg11 := h0.frozen 11
         have hz5 : w.heap.size + 2 ≤ w5.heap.size := h1.lt
         have HH1 := Lib.hid h1
         have HH0 := Lib.hid h0
         clear hs0 hk0 hk1 hk2 h1 h0 hb5 ho5))
    obtain ⟨X, hX⟩ : ∃ X, (((w5.setCell ⟨w.heap.size + 1, 0, none⟩ (.int .i64 16)).setCell ⟨w.heap.size + 1, 2, none⟩ (.int .i64 (1 + d2))).setCell ⟨w.heap.size + 1, 7, none⟩ (.slice B5 (1 + d2).toNat c5)) = X := ⟨_, rfl⟩
    have hx0 : WholeV X w.heap.size 48 [.int .i64 0, .int .i64 0, .int .i64 0, .int .u16 0, .int .u16 0, .int .u16 0, .slice none 0 0, .slice none 0 0, .int .i64 0, .int .i64 0, .int .i64 0, .int .i64 0] := by rw [← hX]; exact HH0.out.below ((((Below.refl (w.heap.size + 1) w5).setCell (p := ⟨w.heap.size + 1, 0, none⟩) (Nat.le_refl _) (.int .i64 16)).setCell (p := ⟨w.heap.size + 1, 2, none⟩) (Nat.le_refl _) (.int .i64 (1 + d2))).setCell (p := ⟨w.heap.size + 1, 7, none⟩) (Nat.le_refl _) (.slice B5 (1 + d2).toNat c5)) (Nat.lt_succ_self _)
    have hxb : Below w.heap.size w X := by rw [← hX]; exact (((HB5.out.setCell (p := ⟨w.heap.size + 1, 0, none⟩) (Nat.le_succ _) (.int .i64 16)).setCell (p := ⟨w.heap.size + 1, 2, none⟩) (Nat.le_succ _) (.int .i64 (1 + d2))).setCell (p := ⟨w.heap.size + 1, 7, none⟩) (Nat.le_succ _) (.slice B5 (1 + d2).toNat c5))
    have hox : X.ownsRow (w.heap.size + 2) 25 1 (.slice B5 (1 + d2).toNat c5) (1 + d2).toNat ((upW (v % 60000) (1 + d2).toNat).map (Value.int .u16)) := by rw [← hX]; exact (own_far (own_far (own_far HO5.out ⟨w.heap.size + 1, 0, none⟩ (Nat.lt_succ_self _) (.int .i64 16)) ⟨w.heap.size + 1, 2, none⟩ (Nat.lt_succ_self _) (.int .i64 (1 + d2))) ⟨w.heap.size + 1, 7, none⟩ (Nat.lt_succ_self _) (.slice B5 (1 + d2).toNat c5))
    rw [hX]
    exact end12s Try.results15 hx0 rfl hxb rfl fun w9 hbb hk => ⟨none, B5, 0, c5, rfl, own_none _ _ _, own_mono (own_blk hox hk (show w.heap.size < w.heap.size + 2 by omega)) (by omega), hbb⟩

set_option maxRecDepth 100000 in
set_option maxHeartbeats 2000000 in
theorem lask_12b (k v : Int) (k0 : -9223372036854775808 ≤ k) (k1 : k ≤ 9223372036854775807) (v0 : -9223372036854775808 ≤ v) (v1 : v ≤ 9223372036854775807) (hq : k % 16 = 12) (h3' : ¬ ((k.tdiv 3840) % 12 = 0)) : AskIs k v := by
  obtain ⟨d1, hd1⟩ : ∃ z, (k.tdiv 16) % 40 = z := ⟨_, rfl⟩
  have d1l : 0 ≤ d1 := by omega
  have d1h : d1 < 40 := by omega
  have HD1 := Lib.hid hd1
  clear hd1
  obtain ⟨d2, hd2⟩ : ∃ z, (k.tdiv 640) % 6 = z := ⟨_, rfl⟩
  have d2l : 0 ≤ d2 := by omega
  have d2h : d2 < 6 := by omega
  have HD2 := Lib.hid hd2
  clear hd2
  obtain ⟨d3, hd3⟩ : ∃ z, (k.tdiv 3840) % 12 = z := ⟨_, rfl⟩
  have d3l : 0 ≤ d3 := by omega
  have d3h : d3 < 12 := by omega
  have HD3 := Lib.hid hd3
  have h3 : ¬ d3 = 0 := by rw [← hd3]; exact h3'
  clear h3'
  clear hd3
  obtain ⟨d4, hd4⟩ : ∃ z, (k.tdiv 46080) % 65536 = z := ⟨_, rfl⟩
  have d4l : 0 ≤ d4 := by omega
  have d4h : d4 < 65536 := by omega
  have HD4 := Lib.hid hd4
  clear hd4
  have HQ := Lib.hid hq
  clear hq
  all_goals
    refine ⟨16, d1, (1 + d2), 0, 0, 0, 0, (1 + d2).toNat, 0, 0, 0, 0, [], upW (v % 60000) (1 + d2).toNat, ⟨⟨rfl, by unfold plainP; omega, by omega, by omega, by have m1 : kMostR 16 = 0 := rfl; have m2 : kMostW 16 = 123 := rfl; unfold fitsP; omega⟩, wide_of (by omega) (by omega) (by omega) (by omega) (by omega) (by omega) (by omega) (by omega) (by omega), upW_words _ _ (by omega) (by omega) (by omega), rfl, upW_length _ _⟩, fun w => ?_⟩
    go_enter Try.func15, Try.ntmps15
    go_wp2_with (first
      | (go_at_call 19; (with_reducible refine (digit_lit k 16 40 _ _ HD1.out k0 k1 (by omega) (by omega) (by omega) (by omega)).mono ?_); rintro e w' ⟨rfl, rfl⟩)
      | (go_at_call 19; (with_reducible refine (digit_lit k 640 6 _ _ HD2.out k0 k1 (by omega) (by omega) (by omega) (by omega)).mono ?_); rintro e w' ⟨rfl, rfl⟩)
      | (go_at_call 19; (with_reducible refine (digit_lit k 3840 12 _ _ HD3.out k0 k1 (by omega) (by omega) (by omega) (by omega)).mono ?_); rintro e w' ⟨rfl, rfl⟩)
      | (go_at_call 19; (with_reducible refine (digit_lit k 46080 65536 _ _ HD4.out k0 k1 (by omega) (by omega) (by omega) (by omega)).mono ?_); rintro e w' ⟨rfl, rfl⟩)
      | (go_at_call 11; (with_reducible refine (within_lit k 16 _ _ HQ.out k0 k1 (by omega) (by omega)).mono ?_); rintro e w' ⟨rfl, rfl⟩)
      | (go_at_call 40
         (with_reducible refine (lwords_any v (1 + d2).toNat (1 + d2) _ (by omega) v0 v1 (by omega)).mono ?_)
         rintro e w5 ⟨B5, c5, rfl, ho5, hb5⟩
         have hs0 : (w.alloc (.cells #[.int .i64 0, .int .i64 0, .int .i64 0, .int .u16 0, .int .u16 0, .int .u16 0, .slice none 0 0, .slice none 0 0, .int .i64 0, .int .i64 0, .int .i64 0, .int .i64 0] 48)).heap.size = w.heap.size + 1 := by simp
         have hk0 : WholeV (w.alloc (.cells #[.int .i64 0, .int .i64 0, .int .i64 0, .int .u16 0, .int .u16 0, .int .u16 0, .slice none 0 0, .slice none 0 0, .int .i64 0, .int .i64 0, .int .i64 0, .int .i64 0] 48)) w.heap.size 48 [.int .i64 0, .int .i64 0, .int .i64 0, .int .u16 0, .int .u16 0, .int .u16 0, .slice none 0 0, .slice none 0 0, .int .i64 0, .int .i64 0, .int .i64 0, .int .i64 0] := heap_alloc_new w _
         have hk1 : WholeV ((w.alloc (.cells #[.int .i64 0, .int .i64 0, .int .i64 0, .int .u16 0, .int .u16 0, .int .u16 0, .slice none 0 0, .slice none 0 0, .int .i64 0, .int .i64 0, .int .i64 0, .int .i64 0] 48)).alloc (.cells #[.int .i64 0, .int .i64 d1, .int .i64 0, .int .u16 0, .int .u16 0, .int .u16 0, .slice none 0 0, .slice none 0 0, .int .i64 0, .int .i64 0, .int .i64 0, .int .i64 0] 48)) (w.heap.size + 1) 48 [.int .i64 0, .int .i64 d1, .int .i64 0, .int .u16 0, .int .u16 0, .int .u16 0, .slice none 0 0, .slice none 0 0, .int .i64 0, .int .i64 0, .int .i64 0, .int .i64 0] := by
           have h := heap_alloc_new (w.alloc (.cells #[.int .i64 0, .int .i64 0, .int .i64 0, .int .u16 0, .int .u16 0, .int .u16 0, .slice none 0 0, .slice none 0 0, .int .i64 0, .int .i64 0, .int .i64 0, .int .i64 0] 48)) (.cells #[.int .i64 0, .int .i64 d1, .int .i64 0, .int .u16 0, .int .u16 0, .int .u16 0, .slice none 0 0, .slice none 0 0, .int .i64 0, .int .i64 0, .int .i64 0, .int .i64 0] 48)
           rwa [hs0] at h
         have hk2 := hk0.below ((Below.refl _ _).alloc (Nat.le_refl _) (.cells #[.int .i64 0, .int .i64 d1, .int .i64 0, .int .u16 0, .int .u16 0, .int .u16 0, .slice none 0 0, .slice none 0 0, .int .i64 0, .int .i64 0, .int .i64 0, .int .i64 0] 48)) (by simp)
         have h1 := hk1.below hb5 hk1.lt
         have h0 := hk2.below hb5 hk2.lt
         have HB5 : Hid (Below w.heap.size w w5) := (((Below.refl _ _).alloc (Nat.le_refl _) _).alloc (by simp) _).trans (hb5.mono (by simp; omega))
         have HO5 : Hid (w5.ownsRow (w.heap.size + 2) 25 1 (.slice B5 (1 + d2).toNat c5) (1 + d2).toNat ((upW (v % 60000) (1 + d2).toNat).map (Value.int .u16))) := own_mono ho5 (by simp)
         obtain ⟨hq0, hq1, hq2, hq3, hq4, hq5, hq6, hq7, hq8, hq9, hq10, hq11⟩ := cells12 h1
         obtain ⟨hp0, hp1, hp2, hp3, hp4, hp5, hp6, hp7, hp8, hp9, hp10, hp11⟩ := cells12 h0
         have hf0 := h1.frozen 0
         have hg0 := h0.frozen 0
         have hf1 := h1.frozen 1
         have hg1 := h0.frozen 1
         have hf2 := h1.frozen 2
         have hg2 := h0.frozen 2
         have hf3 := h1.frozen 3
         have hg3 := h0.frozen 3
         have hf4 := h1.frozen 4
         have hg4 := h0.frozen 4
         have hf5 := h1.frozen 5
         have hg5 := h0.frozen 5
         have hf6 := h1.frozen 6
         have hg6 := h0.frozen 6
         have hf7 := h1.frozen 7
         have hg7 := h0.frozen 7
         have hf8 := h1.frozen 8
         have hg8 := h0.frozen 8
         have hf9 := h1.frozen 9
         have hg9 := h0.frozen 9
         have hf10 := h1.frozen 10
         have hg10 := h0.frozen 10
         have hf11 := h1.frozen 11
         have hg11 := h0.frozen 11
         have hz5 : w.heap.size + 2 ≤ w5.heap.size := h1.lt
         have HH1 := Lib.hid h1
         have HH0 := Lib.hid h0
         clear hs0 hk0 hk1 hk2 h1 h0 hb5 ho5))
    obtain ⟨X, hX⟩ : ∃ X, (((w5.setCell ⟨w.heap.size + 1, 0, none⟩ (.int .i64 16)).setCell ⟨w.heap.size + 1, 2, none⟩ (.int .i64 (1 + d2))).setCell ⟨w.heap.size + 1, 7, none⟩ (.slice B5 (1 + d2).toNat c5)) = X := ⟨_, rfl⟩
    have hx0 : WholeV X w.heap.size 48 [.int .i64 0, .int .i64 0, .int .i64 0, .int .u16 0, .int .u16 0, .int .u16 0, .slice none 0 0, .slice none 0 0, .int .i64 0, .int .i64 0, .int .i64 0, .int .i64 0] := by rw [← hX]; exact HH0.out.below ((((Below.refl (w.heap.size + 1) w5).setCell (p := ⟨w.heap.size + 1, 0, none⟩) (Nat.le_refl _) (.int .i64 16)).setCell (p := ⟨w.heap.size + 1, 2, none⟩) (Nat.le_refl _) (.int .i64 (1 + d2))).setCell (p := ⟨w.heap.size + 1, 7, none⟩) (Nat.le_refl _) (.slice B5 (1 + d2).toNat c5)) (Nat.lt_succ_self _)
    have hxb : Below w.heap.size w X := by rw [← hX]; exact (((HB5.out.setCell (p := ⟨w.heap.size + 1, 0, none⟩) (Nat.le_succ _) (.int .i64 16)).setCell (p := ⟨w.heap.size + 1, 2, none⟩) (Nat.le_succ _) (.int .i64 (1 + d2))).setCell (p := ⟨w.heap.size + 1, 7, none⟩) (Nat.le_succ _) (.slice B5 (1 + d2).toNat c5))
    have hox : X.ownsRow (w.heap.size + 2) 25 1 (.slice B5 (1 + d2).toNat c5) (1 + d2).toNat ((upW (v % 60000) (1 + d2).toNat).map (Value.int .u16)) := by rw [← hX]; exact (own_far (own_far (own_far HO5.out ⟨w.heap.size + 1, 0, none⟩ (Nat.lt_succ_self _) (.int .i64 16)) ⟨w.heap.size + 1, 2, none⟩ (Nat.lt_succ_self _) (.int .i64 (1 + d2))) ⟨w.heap.size + 1, 7, none⟩ (Nat.lt_succ_self _) (.slice B5 (1 + d2).toNat c5))
    rw [hX]
    exact end12s Try.results15 hx0 rfl hxb rfl fun w9 hbb hk => ⟨none, B5, 0, c5, rfl, own_none _ _ _, own_mono (own_blk hox hk (show w.heap.size < w.heap.size + 2 by omega)) (by omega), hbb⟩

set_option maxRecDepth 100000 in
set_option maxHeartbeats 2000000 in
theorem lask_14a (k v : Int) (k0 : -9223372036854775808 ≤ k) (k1 : k ≤ 9223372036854775807) (v0 : -9223372036854775808 ≤ v) (v1 : v ≤ 9223372036854775807) (hq : k % 16 = 14) (h3' : ((k.tdiv 3840) % 12 = 0)) : AskIs k v := by
  obtain ⟨d1, hd1⟩ : ∃ z, (k.tdiv 16) % 40 = z := ⟨_, rfl⟩
  have d1l : 0 ≤ d1 := by omega
  have d1h : d1 < 40 := by omega
  have HD1 := Lib.hid hd1
  clear hd1
  obtain ⟨d2, hd2⟩ : ∃ z, (k.tdiv 640) % 6 = z := ⟨_, rfl⟩
  have d2l : 0 ≤ d2 := by omega
  have d2h : d2 < 6 := by omega
  have HD2 := Lib.hid hd2
  clear hd2
  obtain ⟨d3, hd3⟩ : ∃ z, (k.tdiv 3840) % 12 = z := ⟨_, rfl⟩
  have d3l : 0 ≤ d3 := by omega
  have d3h : d3 < 12 := by omega
  have HD3 := Lib.hid hd3
  have h3 : d3 = 0 := by rw [← hd3]; exact h3'
  clear h3'
  clear hd3
  obtain ⟨d4, hd4⟩ : ∃ z, (k.tdiv 46080) % 65536 = z := ⟨_, rfl⟩
  have d4l : 0 ≤ d4 := by omega
  have d4h : d4 < 65536 := by omega
  have HD4 := Lib.hid hd4
  clear hd4
  obtain ⟨e1, he1⟩ : ∃ z, v % 40 = z := ⟨_, rfl⟩
  have e1l : 0 ≤ e1 := by omega
  have e1h : e1 < 40 := by omega
  have HE1 := Lib.hid he1
  clear he1
  obtain ⟨e2, he2⟩ : ∃ z, (v.tdiv 40) % 6 = z := ⟨_, rfl⟩
  have e2l : 0 ≤ e2 := by omega
  have e2h : e2 < 6 := by omega
  have HE2 := Lib.hid he2
  clear he2
  have HQ := Lib.hid hq
  clear hq
  all_goals
    refine ⟨23, d4, (1 + d2), 0, 0, 0, 0, (1 + d2).toNat, e1, (1 + e2), 0, 0, [], upW (v % 60000) (1 + d2).toNat, ⟨⟨rfl, by unfold plainP; omega, by omega, by omega, by have m1 : kMostR 23 = 125 := rfl; have m2 : kMostW 23 = 121 := rfl; unfold fitsP; omega⟩, wide_of (by omega) (by omega) (by omega) (by omega) (by omega) (by omega) (by omega) (by omega) (by omega), upW_words _ _ (by omega) (by omega) (by omega), rfl, upW_length _ _⟩, fun w => ?_⟩
    go_enter Try.func15, Try.ntmps15
    go_wp2_with (first
      | (go_at_call 19; (with_reducible refine (digit_lit k 16 40 _ _ HD1.out k0 k1 (by omega) (by omega) (by omega) (by omega)).mono ?_); rintro e w' ⟨rfl, rfl⟩)
      | (go_at_call 19; (with_reducible refine (digit_lit k 640 6 _ _ HD2.out k0 k1 (by omega) (by omega) (by omega) (by omega)).mono ?_); rintro e w' ⟨rfl, rfl⟩)
      | (go_at_call 19; (with_reducible refine (digit_lit k 3840 12 _ _ HD3.out k0 k1 (by omega) (by omega) (by omega) (by omega)).mono ?_); rintro e w' ⟨rfl, rfl⟩)
      | (go_at_call 19; (with_reducible refine (digit_lit k 46080 65536 _ _ HD4.out k0 k1 (by omega) (by omega) (by omega) (by omega)).mono ?_); rintro e w' ⟨rfl, rfl⟩)
      | (go_at_call 11; (with_reducible refine (within_lit k 16 _ _ HQ.out k0 k1 (by omega) (by omega)).mono ?_); rintro e w' ⟨rfl, rfl⟩)
      | (go_at_call 11; (with_reducible refine (within_lit v 40 _ _ HE1.out v0 v1 (by omega) (by omega)).mono ?_); rintro e w' ⟨rfl, rfl⟩)
      | (go_at_call 19; (with_reducible refine (digit_lit v 40 6 _ _ HE2.out v0 v1 (by omega) (by omega) (by omega) (by omega)).mono ?_); rintro e w' ⟨rfl, rfl⟩)
      | (go_at_call 40
         (with_reducible refine (lwords_any v (1 + d2).toNat (1 + d2) _ (by omega) v0 v1 (by omega)).mono ?_)
         rintro e w5 ⟨B5, c5, rfl, ho5, hb5⟩
         have hs0 : (w.alloc (.cells #[.int .i64 0, .int .i64 0, .int .i64 0, .int .u16 0, .int .u16 0, .int .u16 0, .slice none 0 0, .slice none 0 0, .int .i64 0, .int .i64 0, .int .i64 0, .int .i64 0] 48)).heap.size = w.heap.size + 1 := by simp
         have hk0 : WholeV (w.alloc (.cells #[.int .i64 0, .int .i64 0, .int .i64 0, .int .u16 0, .int .u16 0, .int .u16 0, .slice none 0 0, .slice none 0 0, .int .i64 0, .int .i64 0, .int .i64 0, .int .i64 0] 48)) w.heap.size 48 [.int .i64 0, .int .i64 0, .int .i64 0, .int .u16 0, .int .u16 0, .int .u16 0, .slice none 0 0, .slice none 0 0, .int .i64 0, .int .i64 0, .int .i64 0, .int .i64 0] := heap_alloc_new w _
         have hk1 : WholeV ((w.alloc (.cells #[.int .i64 0, .int .i64 0, .int .i64 0, .int .u16 0, .int .u16 0, .int .u16 0, .slice none 0 0, .slice none 0 0, .int .i64 0, .int .i64 0, .int .i64 0, .int .i64 0] 48)).alloc (.cells #[.int .i64 0, .int .i64 d4, .int .i64 0, .int .u16 0, .int .u16 0, .int .u16 0, .slice none 0 0, .slice none 0 0, .int .i64 0, .int .i64 0, .int .i64 0, .int .i64 0] 48)) (w.heap.size + 1) 48 [.int .i64 0, .int .i64 d4, .int .i64 0, .int .u16 0, .int .u16 0, .int .u16 0, .slice none 0 0, .slice none 0 0, .int .i64 0, .int .i64 0, .int .i64 0, .int .i64 0] := by
           have h := heap_alloc_new (w.alloc (.cells #[.int .i64 0, .int .i64 0, .int .i64 0, .int .u16 0, .int .u16 0, .int .u16 0, .slice none 0 0, .slice none 0 0, .int .i64 0, .int .i64 0, .int .i64 0, .int .i64 0] 48)) (.cells #[.int .i64 0, .int .i64 d4, .int .i64 0, .int .u16 0, .int .u16 0, .int .u16 0, .slice none 0 0, .slice none 0 0, .int .i64 0, .int .i64 0, .int .i64 0, .int .i64 0] 48)
           rwa [hs0] at h
         have hk2 := hk0.below ((Below.refl _ _).alloc (Nat.le_refl _) (.cells #[.int .i64 0, .int .i64 d4, .int .i64 0, .int .u16 0, .int .u16 0, .int .u16 0, .slice none 0 0, .slice none 0 0, .int .i64 0, .int .i64 0, .int .i64 0, .int .i64 0] 48)) (by simp)
         have h1 := hk1.below hb5 hk1.lt
         have h0 := hk2.below hb5 hk2.lt
         have HB5 : Hid (Below w.heap.size w w5) := (((Below.refl _ _).alloc (Nat.le_refl _) _).alloc (by simp) _).trans (hb5.mono (by simp; omega))
         have HO5 : Hid (w5.ownsRow (w.heap.size + 2) 25 1 (.slice B5 (1 + d2).toNat c5) (1 + d2).toNat ((upW (v % 60000) (1 + d2).toNat).map (Value.int .u16))) := own_mono ho5 (by simp)
         obtain ⟨hq0, hq1, hq2, hq3, hq4, hq5, hq6, hq7, hq8, hq9, hq10, hq11⟩ := cells12 h1
         obtain ⟨hp0, hp1, hp2, hp3, hp4, hp5, hp6, hp7, hp8, hp9, hp10, hp11⟩ := cells12 h0
         have hf0 := h1.frozen 0
         have hg0 := h0.frozen 0
         have hf1 := h1.frozen 1
         have hg1 := h0.frozen 1
         have hf2 := h1.frozen 2
         have hg2 := h0.frozen 2
         have hf3 := h1.frozen 3
         have hg3 := h0.frozen 3
         have hf4 := h1.frozen 4
         have hg4 := h0.frozen 4
         have hf5 := h1.frozen 5
         have hg5 := h0.frozen 5
         have hf6 := h1.frozen 6
         have hg6 := h0.frozen 6
         have hf7 := h1.frozen 7
         have hg7 := h0.frozen 7
         have hf8 := h1.frozen 8
         have hg8 := h0.frozen 8
         have hf9 := h1.frozen 9
         have hg9 := h0.frozen 9
         have hf10 := h1.frozen 10
         have hg10 := h0.frozen 10
         have hf11 := h1.frozen 11
         have hg11 := h0.frozen 11
         have hz5 : w.heap.size + 2 ≤ w5.heap.size := h1.lt
         have HH1 := Lib.hid h1
         have HH0 := Lib.hid h0
         clear hs0 hk0 hk1 hk2 h1 h0 hb5 ho5))
    obtain ⟨X, hX⟩ : ∃ X, (((((w5.setCell ⟨w.heap.size + 1, 0, none⟩ (.int .i64 23)).setCell ⟨w.heap.size + 1, 2, none⟩ (.int .i64 (1 + d2))).setCell ⟨w.heap.size + 1, 7, none⟩ (.slice B5 (1 + d2).toNat c5)).setCell ⟨w.heap.size + 1, 8, none⟩ (.int .i64 e1)).setCell ⟨w.heap.size + 1, 9, none⟩ (.int .i64 (1 + e2))) = X := ⟨_, rfl⟩
    have hx0 : WholeV X w.heap.size 48 [.int .i64 0, .int .i64 0, .int .i64 0, .int .u16 0, .int .u16 0, .int .u16 0, .slice none 0 0, .slice none 0 0, .int .i64 0, .int .i64 0, .int .i64 0, .int .i64 0] := by rw [← hX]; exact HH0.out.below ((((((Below.refl (w.heap.size + 1) w5).setCell (p := ⟨w.heap.size + 1, 0, none⟩) (Nat.le_refl _) (.int .i64 23)).setCell (p := ⟨w.heap.size + 1, 2, none⟩) (Nat.le_refl _) (.int .i64 (1 + d2))).setCell (p := ⟨w.heap.size + 1, 7, none⟩) (Nat.le_refl _) (.slice B5 (1 + d2).toNat c5)).setCell (p := ⟨w.heap.size + 1, 8, none⟩) (Nat.le_refl _) (.int .i64 e1)).setCell (p := ⟨w.heap.size + 1, 9, none⟩) (Nat.le_refl _) (.int .i64 (1 + e2))) (Nat.lt_succ_self _)
    have hxb : Below w.heap.size w X := by rw [← hX]; exact (((((HB5.out.setCell (p := ⟨w.heap.size + 1, 0, none⟩) (Nat.le_succ _) (.int .i64 23)).setCell (p := ⟨w.heap.size + 1, 2, none⟩) (Nat.le_succ _) (.int .i64 (1 + d2))).setCell (p := ⟨w.heap.size + 1, 7, none⟩) (Nat.le_succ _) (.slice B5 (1 + d2).toNat c5)).setCell (p := ⟨w.heap.size + 1, 8, none⟩) (Nat.le_succ _) (.int .i64 e1)).setCell (p := ⟨w.heap.size + 1, 9, none⟩) (Nat.le_succ _) (.int .i64 (1 + e2)))
    have hox : X.ownsRow (w.heap.size + 2) 25 1 (.slice B5 (1 + d2).toNat c5) (1 + d2).toNat ((upW (v % 60000) (1 + d2).toNat).map (Value.int .u16)) := by rw [← hX]; exact (own_far (own_far (own_far (own_far (own_far HO5.out ⟨w.heap.size + 1, 0, none⟩ (Nat.lt_succ_self _) (.int .i64 23)) ⟨w.heap.size + 1, 2, none⟩ (Nat.lt_succ_self _) (.int .i64 (1 + d2))) ⟨w.heap.size + 1, 7, none⟩ (Nat.lt_succ_self _) (.slice B5 (1 + d2).toNat c5)) ⟨w.heap.size + 1, 8, none⟩ (Nat.lt_succ_self _) (.int .i64 e1)) ⟨w.heap.size + 1, 9, none⟩ (Nat.lt_succ_self _) (.int .i64 (1 + e2)))
    rw [hX]
    exact end12s Try.results15 hx0 rfl hxb rfl fun w9 hbb hk => ⟨none, B5, 0, c5, rfl, own_none _ _ _, own_mono (own_blk hox hk (show w.heap.size < w.heap.size + 2 by omega)) (by omega), hbb⟩

set_option maxRecDepth 100000 in
set_option maxHeartbeats 2000000 in
theorem lask_14b (k v : Int) (k0 : -9223372036854775808 ≤ k) (k1 : k ≤ 9223372036854775807) (v0 : -9223372036854775808 ≤ v) (v1 : v ≤ 9223372036854775807) (hq : k % 16 = 14) (h3' : ¬ ((k.tdiv 3840) % 12 = 0)) : AskIs k v := by
  obtain ⟨d1, hd1⟩ : ∃ z, (k.tdiv 16) % 40 = z := ⟨_, rfl⟩
  have d1l : 0 ≤ d1 := by omega
  have d1h : d1 < 40 := by omega
  have HD1 := Lib.hid hd1
  clear hd1
  obtain ⟨d2, hd2⟩ : ∃ z, (k.tdiv 640) % 6 = z := ⟨_, rfl⟩
  have d2l : 0 ≤ d2 := by omega
  have d2h : d2 < 6 := by omega
  have HD2 := Lib.hid hd2
  clear hd2
  obtain ⟨d3, hd3⟩ : ∃ z, (k.tdiv 3840) % 12 = z := ⟨_, rfl⟩
  have d3l : 0 ≤ d3 := by omega
  have d3h : d3 < 12 := by omega
  have HD3 := Lib.hid hd3
  have h3 : ¬ d3 = 0 := by rw [← hd3]; exact h3'
  clear h3'
  clear hd3
  obtain ⟨d4, hd4⟩ : ∃ z, (k.tdiv 46080) % 65536 = z := ⟨_, rfl⟩
  have d4l : 0 ≤ d4 := by omega
  have d4h : d4 < 65536 := by omega
  have HD4 := Lib.hid hd4
  clear hd4
  obtain ⟨e1, he1⟩ : ∃ z, v % 40 = z := ⟨_, rfl⟩
  have e1l : 0 ≤ e1 := by omega
  have e1h : e1 < 40 := by omega
  have HE1 := Lib.hid he1
  clear he1
  obtain ⟨e2, he2⟩ : ∃ z, (v.tdiv 40) % 6 = z := ⟨_, rfl⟩
  have e2l : 0 ≤ e2 := by omega
  have e2h : e2 < 6 := by omega
  have HE2 := Lib.hid he2
  clear he2
  have HQ := Lib.hid hq
  clear hq
  all_goals
    refine ⟨23, d1, (1 + d2), 0, 0, 0, 0, (1 + d2).toNat, e1, (1 + e2), 0, 0, [], upW (v % 60000) (1 + d2).toNat, ⟨⟨rfl, by unfold plainP; omega, by omega, by omega, by have m1 : kMostR 23 = 125 := rfl; have m2 : kMostW 23 = 121 := rfl; unfold fitsP; omega⟩, wide_of (by omega) (by omega) (by omega) (by omega) (by omega) (by omega) (by omega) (by omega) (by omega), upW_words _ _ (by omega) (by omega) (by omega), rfl, upW_length _ _⟩, fun w => ?_⟩
    go_enter Try.func15, Try.ntmps15
    go_wp2_with (first
      | (go_at_call 19; (with_reducible refine (digit_lit k 16 40 _ _ HD1.out k0 k1 (by omega) (by omega) (by omega) (by omega)).mono ?_); rintro e w' ⟨rfl, rfl⟩)
      | (go_at_call 19; (with_reducible refine (digit_lit k 640 6 _ _ HD2.out k0 k1 (by omega) (by omega) (by omega) (by omega)).mono ?_); rintro e w' ⟨rfl, rfl⟩)
      | (go_at_call 19; (with_reducible refine (digit_lit k 3840 12 _ _ HD3.out k0 k1 (by omega) (by omega) (by omega) (by omega)).mono ?_); rintro e w' ⟨rfl, rfl⟩)
      | (go_at_call 19; (with_reducible refine (digit_lit k 46080 65536 _ _ HD4.out k0 k1 (by omega) (by omega) (by omega) (by omega)).mono ?_); rintro e w' ⟨rfl, rfl⟩)
      | (go_at_call 11; (with_reducible refine (within_lit k 16 _ _ HQ.out k0 k1 (by omega) (by omega)).mono ?_); rintro e w' ⟨rfl, rfl⟩)
      | (go_at_call 11; (with_reducible refine (within_lit v 40 _ _ HE1.out v0 v1 (by omega) (by omega)).mono ?_); rintro e w' ⟨rfl, rfl⟩)
      | (go_at_call 19; (with_reducible refine (digit_lit v 40 6 _ _ HE2.out v0 v1 (by omega) (by omega) (by omega) (by omega)).mono ?_); rintro e w' ⟨rfl, rfl⟩)
      | (go_at_call 40
         (with_reducible refine (lwords_any v (1 + d2).toNat (1 + d2) _ (by omega) v0 v1 (by omega)).mono ?_)
         rintro e w5 ⟨B5, c5, rfl, ho5, hb5⟩
         have hs0 : (w.alloc (.cells #[.int .i64 0, .int .i64 0, .int .i64 0, .int .u16 0, .int .u16 0, .int .u16 0, .slice none 0 0, .slice none 0 0, .int .i64 0, .int .i64 0, .int .i64 0, .int .i64 0] 48)).heap.size = w.heap.size + 1 := by simp
         have hk0 : WholeV (w.alloc (.cells #[.int .i64 0, .int .i64 0, .int .i64 0, .int .u16 0, .int .u16 0, .int .u16 0, .slice none 0 0, .slice none 0 0, .int .i64 0, .int .i64 0, .int .i64 0, .int .i64 0] 48)) w.heap.size 48 [.int .i64 0, .int .i64 0, .int .i64 0, .int .u16 0, .int .u16 0, .int .u16 0, .slice none 0 0, .slice none 0 0, .int .i64 0, .int .i64 0, .int .i64 0, .int .i64 0] := heap_alloc_new w _
         have hk1 : WholeV ((w.alloc (.cells #[.int .i64 0, .int .i64 0, .int .i64 0, .int .u16 0, .int .u16 0, .int .u16 0, .slice none 0 0, .slice none 0 0, .int .i64 0, .int .i64 0, .int .i64 0, .int .i64 0] 48)).alloc (.cells #[.int .i64 0, .int .i64 d1, .int .i64 0, .int .u16 0, .int .u16 0, .int .u16 0, .slice none 0 0, .slice none 0 0, .int .i64 0, .int .i64 0, .int .i64 0, .int .i64 0] 48)) (w.heap.size + 1) 48 [.int .i64 0, .int .i64 d1, .int .i64 0, .int .u16 0, .int .u16 0, .int .u16 0, .slice none 0 0, .slice none 0 0, .int .i64 0, .int .i64 0, .int .i64 0, .int .i64 0] := by
           have h := heap_alloc_new (w.alloc (.cells #[.int .i64 0, .int .i64 0, .int .i64 0, .int .u16 0, .int .u16 0, .int .u16 0, .slice none 0 0, .slice none 0 0, .int .i64 0, .int .i64 0, .int .i64 0, .int .i64 0] 48)) (.cells #[.int .i64 0, .int .i64 d1, .int .i64 0, .int .u16 0, .int .u16 0, .int .u16 0, .slice none 0 0, .slice none 0 0, .int .i64 0, .int .i64 0, .int .i64 0, .int .i64 0] 48)
           rwa [hs0] at h
         have hk2 := hk0.below ((Below.refl _ _).alloc (Nat.le_refl _) (.cells #[.int .i64 0, .int .i64 d1, .int .i64 0, .int .u16 0, .int .u16 0, .int .u16 0, .slice none 0 0, .slice none 0 0, .int .i64 0, .int .i64 0, .int .i64 0, .int .i64 0] 48)) (by simp)
         have h1 := hk1.below hb5 hk1.lt
         have h0 := hk2.below hb5 hk2.lt
         have HB5 : Hid (Below w.heap.size w w5) := (((Below.refl _ _).alloc (Nat.le_refl _) _).alloc (by simp) _).trans (hb5.mono (by simp; omega))
         have HO5 : Hid (w5.ownsRow (w.heap.size + 2) 25 1 (.slice B5 (1 + d2).toNat c5) (1 + d2).toNat ((upW (v % 60000) (1 + d2).toNat).map (Value.int .u16))) := own_mono ho5 (by simp)
         obtain ⟨hq0, hq1, hq2, hq3, hq4, hq5, hq6, hq7, hq8, hq9, hq10, hq11⟩ := cells12 h1
         obtain ⟨hp0, hp1, hp2, hp3, hp4, hp5, hp6, hp7, hp8, hp9, hp10, hp11⟩ := cells12 h0
         have hf0 := h1.frozen 0
         have hg0 := h0.frozen 0
         have hf1 := h1.frozen 1
         have hg1 := h0.frozen 1
         have hf2 := h1.frozen 2
         have hg2 := h0.frozen 2
         have hf3 := h1.frozen 3
         have hg3 := h0.frozen 3
         have hf4 := h1.frozen 4
         have hg4 := h0.frozen 4
         have hf5 := h1.frozen 5
         have hg5 := h0.frozen 5
         have hf6 := h1.frozen 6
         have hg6 := h0.frozen 6
         have hf7 := h1.frozen 7
         have hg7 := h0.frozen 7
         have hf8 := h1.frozen 8
         have hg8 := h0.frozen 8
         have hf9 := h1.frozen 9
         have hg9 := h0.frozen 9
         have hf10 := h1.frozen 10
         have hg10 := h0.frozen 10
         have hf11 := h1.frozen 11
         have hg11 := h0.frozen 11
         have hz5 : w.heap.size + 2 ≤ w5.heap.size := h1.lt
         have HH1 := Lib.hid h1
         have HH0 := Lib.hid h0
         clear hs0 hk0 hk1 hk2 h1 h0 hb5 ho5))
    obtain ⟨X, hX⟩ : ∃ X, (((((w5.setCell ⟨w.heap.size + 1, 0, none⟩ (.int .i64 23)).setCell ⟨w.heap.size + 1, 2, none⟩ (.int .i64 (1 + d2))).setCell ⟨w.heap.size + 1, 7, none⟩ (.slice B5 (1 + d2).toNat c5)).setCell ⟨w.heap.size + 1, 8, none⟩ (.int .i64 e1)).setCell ⟨w.heap.size + 1, 9, none⟩ (.int .i64 (1 + e2))) = X := ⟨_, rfl⟩
    have hx0 : WholeV X w.heap.size 48 [.int .i64 0, .int .i64 0, .int .i64 0, .int .u16 0, .int .u16 0, .int .u16 0, .slice none 0 0, .slice none 0 0, .int .i64 0, .int .i64 0, .int .i64 0, .int .i64 0] := by rw [← hX]; exact HH0.out.below ((((((Below.refl (w.heap.size + 1) w5).setCell (p := ⟨w.heap.size + 1, 0, none⟩) (Nat.le_refl _) (.int .i64 23)).setCell (p := ⟨w.heap.size + 1, 2, none⟩) (Nat.le_refl _) (.int .i64 (1 + d2))).setCell (p := ⟨w.heap.size + 1, 7, none⟩) (Nat.le_refl _) (.slice B5 (1 + d2).toNat c5)).setCell (p := ⟨w.heap.size + 1, 8, none⟩) (Nat.le_refl _) (.int .i64 e1)).setCell (p := ⟨w.heap.size + 1, 9, none⟩) (Nat.le_refl _) (.int .i64 (1 + e2))) (Nat.lt_succ_self _)
    have hxb : Below w.heap.size w X := by rw [← hX]; exact (((((HB5.out.setCell (p := ⟨w.heap.size + 1, 0, none⟩) (Nat.le_succ _) (.int .i64 23)).setCell (p := ⟨w.heap.size + 1, 2, none⟩) (Nat.le_succ _) (.int .i64 (1 + d2))).setCell (p := ⟨w.heap.size + 1, 7, none⟩) (Nat.le_succ _) (.slice B5 (1 + d2).toNat c5)).setCell (p := ⟨w.heap.size + 1, 8, none⟩) (Nat.le_succ _) (.int .i64 e1)).setCell (p := ⟨w.heap.size + 1, 9, none⟩) (Nat.le_succ _) (.int .i64 (1 + e2)))
    have hox : X.ownsRow (w.heap.size + 2) 25 1 (.slice B5 (1 + d2).toNat c5) (1 + d2).toNat ((upW (v % 60000) (1 + d2).toNat).map (Value.int .u16)) := by rw [← hX]; exact (own_far (own_far (own_far (own_far (own_far HO5.out ⟨w.heap.size + 1, 0, none⟩ (Nat.lt_succ_self _) (.int .i64 23)) ⟨w.heap.size + 1, 2, none⟩ (Nat.lt_succ_self _) (.int .i64 (1 + d2))) ⟨w.heap.size + 1, 7, none⟩ (Nat.lt_succ_self _) (.slice B5 (1 + d2).toNat c5)) ⟨w.heap.size + 1, 8, none⟩ (Nat.lt_succ_self _) (.int .i64 e1)) ⟨w.heap.size + 1, 9, none⟩ (Nat.lt_succ_self _) (.int .i64 (1 + e2)))
    rw [hX]
    exact end12s Try.results15 hx0 rfl hxb rfl fun w9 hbb hk => ⟨none, B5, 0, c5, rfl, own_none _ _ _, own_mono (own_blk hox hk (show w.heap.size < w.heap.size + 2 by omega)) (by omega), hbb⟩

theorem WholeV.alloc {w : World} {g : Nat} {t : TypeId} {vs : List Value} (h : WholeV w g t vs) (o : Obj) : WholeV (w.alloc o) g t vs := h.below ((Below.refl _ _).alloc (Nat.le_refl _) _) h.lt
/-- Bits by a number. -/
def upB (v : Int) (m : Nat) : List Bool := (List.range m).map fun (i : Nat) => (v % (7 + (i : Int))) % 2 == 1
theorem upB_length (v : Int) (m : Nat) : (upB v m).length = m := by simp [upB]
theorem upB_succ (v : Int) (m : Nat) : upB v (m + 1) = upB v m ++ [(v % (7 + (m : Int))) % 2 == 1] := by simp [upB, List.range_succ]
theorem whole_grown {w w' : World} {g : Nat} {t : TypeId} {vs : List Value} {row : Option Nat} (h : WholeV w g t vs) (hg : w.grownBy w' row) (hr : some g ≠ row) : WholeV w' g t vs := (hg.block g h.lt hr).trans h
theorem own_ne {w : World} {b g : Nat} {e : TypeId} {v : Value} {n : Nat} {xs : List Value} (h : w.ownsRow b e 1 v n xs) (hg : g < b) : some g ≠ v.ownBlock := by
  intro he
  have := own_ge h g he.symm
  omega

set_option maxRecDepth 100000 in
set_option maxHeartbeats 2000000 in
theorem lask_10a (k v : Int) (k0 : -9223372036854775808 ≤ k) (k1 : k ≤ 9223372036854775807) (v0 : -9223372036854775808 ≤ v) (v1 : v ≤ 9223372036854775807) (hq : k % 16 = 10) (h3' : ((k.tdiv 3840) % 12 = 0)) (hv' : ((v.tdiv 64) % 3 = 0)) : AskIs k v := by
  obtain ⟨d1, hd1⟩ : ∃ z, (k.tdiv 16) % 40 = z := ⟨_, rfl⟩
  have d1l : 0 ≤ d1 := by omega
  have d1h : d1 < 40 := by omega
  have HD1 := Lib.hid hd1
  clear hd1
  obtain ⟨d2, hd2⟩ : ∃ z, (k.tdiv 640) % 6 = z := ⟨_, rfl⟩
  have d2l : 0 ≤ d2 := by omega
  have d2h : d2 < 6 := by omega
  have HD2 := Lib.hid hd2
  clear hd2
  obtain ⟨d3, hd3⟩ : ∃ z, (k.tdiv 3840) % 12 = z := ⟨_, rfl⟩
  have d3l : 0 ≤ d3 := by omega
  have d3h : d3 < 12 := by omega
  have HD3 := Lib.hid hd3
  have h3 : d3 = 0 := by rw [← hd3]; exact h3'
  clear h3'
  clear hd3
  obtain ⟨d4, hd4⟩ : ∃ z, (k.tdiv 46080) % 65536 = z := ⟨_, rfl⟩
  have d4l : 0 ≤ d4 := by omega
  have d4h : d4 < 65536 := by omega
  have HD4 := Lib.hid hd4
  clear hd4
  obtain ⟨e3, he3⟩ : ∃ z, (v.tdiv 64) % 3 = z := ⟨_, rfl⟩
  have e3l : 0 ≤ e3 := by omega
  have e3h : e3 < 3 := by omega
  have HE3 := Lib.hid he3
  have h4 : e3 = 0 := by rw [← he3]; exact hv'
  clear hv'
  clear he3
  obtain ⟨d5, hd5⟩ : ∃ z, (k.tdiv 16) % 20 = z := ⟨_, rfl⟩
  have d5l : 0 ≤ d5 := by omega
  have d5h : d5 < 20 := by omega
  have HD5 := Lib.hid hd5
  clear hd5
  have HQ := Lib.hid hq
  clear hq
  all_goals
    refine ⟨15, d5, (14 + (1 + d2)), 0, 0, 0, ((14 + (1 + d2)).toNat), 0, 0, 0, 0, 0, upB v ((14 + (1 + d2)).toNat), [], ⟨⟨rfl, by unfold plainP; omega, by omega, by omega, by have m1 : kMostR 15 = 0 := rfl; have m2 : kMostW 15 = 1968 := rfl; unfold fitsP; omega⟩, wide_of (by omega) (by omega) (by omega) (by omega) (by omega) (by omega) (by omega) (by omega) (by omega), (by intro x hx; cases hx), upB_length _ _, rfl⟩, fun w => ?_⟩
    go_enter Try.func15, Try.ntmps15
    go_wp2_with (first
      | (go_at_call 19; (with_reducible refine (digit_lit k 16 40 _ _ HD1.out k0 k1 (by omega) (by omega) (by omega) (by omega)).mono ?_); rintro e w' ⟨rfl, rfl⟩)
      | (go_at_call 19; (with_reducible refine (digit_lit k 640 6 _ _ HD2.out k0 k1 (by omega) (by omega) (by omega) (by omega)).mono ?_); rintro e w' ⟨rfl, rfl⟩)
      | (go_at_call 19; (with_reducible refine (digit_lit k 3840 12 _ _ HD3.out k0 k1 (by omega) (by omega) (by omega) (by omega)).mono ?_); rintro e w' ⟨rfl, rfl⟩)
      | (go_at_call 19; (with_reducible refine (digit_lit k 46080 65536 _ _ HD4.out k0 k1 (by omega) (by omega) (by omega) (by omega)).mono ?_); rintro e w' ⟨rfl, rfl⟩)
      | (go_at_call 11; (with_reducible refine (within_lit k 16 _ _ HQ.out k0 k1 (by omega) (by omega)).mono ?_); rintro e w' ⟨rfl, rfl⟩)
      | (go_at_call 19; (with_reducible refine (digit_lit v 64 3 _ _ HE3.out v0 v1 (by omega) (by omega) (by omega) (by omega)).mono ?_); rintro e w' ⟨rfl, rfl⟩)
      | (go_at_call 19; (with_reducible refine (digit_lit k 16 20 _ _ HD5.out k0 k1 (by omega) (by omega) (by omega) (by omega)).mono ?_); rintro e w' ⟨rfl, rfl⟩))
    go_loopw [8] (fun i wr => ∃ (j : Nat) (B : Option Addr) (d : Nat), j ≤ (14 + (1 + d2)).toNat ∧ i = .int .i64 (j : Int) ∧ Hid (WholeV wr (w.heap.size + 1) 48 [.int .i64 15, .int .i64 d5, .int .i64 (14 + (1 + d2)), .int .u16 0, .int .u16 0, .int .u16 0, .slice B j d, .slice none 0 0, .int .i64 0, .int .i64 0, .int .i64 0, .int .i64 0]) ∧ Hid (WholeV wr w.heap.size 48 [.int .i64 0, .int .i64 0, .int .i64 0, .int .u16 0, .int .u16 0, .int .u16 0, .slice none 0 0, .slice none 0 0, .int .i64 0, .int .i64 0, .int .i64 0, .int .i64 0]) ∧ Hid (wr.ownsRow (w.heap.size + 2) 4 1 (.slice B j d) j ((upB v j).map Value.bool)) ∧ Hid (Below w.heap.size w wr)) (fun i _ => (14 + (1 + d2)).toNat - (intOf i).toNat)
    case atStart =>
      have hs0 : (w.alloc (.cells #[.int .i64 0, .int .i64 0, .int .i64 0, .int .u16 0, .int .u16 0, .int .u16 0, .slice none 0 0, .slice none 0 0, .int .i64 0, .int .i64 0, .int .i64 0, .int .i64 0] 48)).heap.size = w.heap.size + 1 := by simp
      have hk0 : WholeV (w.alloc (.cells #[.int .i64 0, .int .i64 0, .int .i64 0, .int .u16 0, .int .u16 0, .int .u16 0, .slice none 0 0, .slice none 0 0, .int .i64 0, .int .i64 0, .int .i64 0, .int .i64 0] 48)) w.heap.size 48 [.int .i64 0, .int .i64 0, .int .i64 0, .int .u16 0, .int .u16 0, .int .u16 0, .slice none 0 0, .slice none 0 0, .int .i64 0, .int .i64 0, .int .i64 0, .int .i64 0] := heap_alloc_new w _
      have hk1 := heap_alloc_new (w.alloc (.cells #[.int .i64 0, .int .i64 0, .int .i64 0, .int .u16 0, .int .u16 0, .int .u16 0, .slice none 0 0, .slice none 0 0, .int .i64 0, .int .i64 0, .int .i64 0, .int .i64 0] 48)) (.cells #[.int .i64 15, .int .i64 d5, .int .i64 (14 + (1 + d2)), .int .u16 0, .int .u16 0, .int .u16 0, .slice none 0 0, .slice none 0 0, .int .i64 0, .int .i64 0, .int .i64 0, .int .i64 0] 48)
      rw [hs0] at hk1
      exact ⟨0, none, 0, by omega, rfl, hk1, hk0.below ((Below.refl _ _).alloc (Nat.le_refl _) _) (by simp), own_none _ _ _, ((Below.refl _ _).alloc (Nat.le_refl _) _).alloc (by simp) _⟩
    case round =>
      obtain ⟨j, B, d, hj, rfl, HO, HZ, HK, HB⟩ := hrel
      have hz5 : w.heap.size + 2 ≤ wr.heap.size := HO.out.lt
      by_cases hlt : j < (14 + (1 + d2)).toNat
      · have hi : (j : Int) < 14 + (1 + d2) := by omega
        have hc6 := HO.out.cell 6
        have hf6 := HO.out.frozen 6
        have hc6' : wr.cell? ⟨w.heap.size + 1, 6, none⟩ = some (.slice B j d) := hc6
        obtain ⟨z, hz⟩ : ∃ z, v % (7 + (j : Int)) = z := ⟨_, rfl⟩
        have z0 : 0 ≤ z := by rw [← hz]; exact Int.emod_nonneg _ (by omega)
        have z1 : z < 7 + (j : Int) := by rw [← hz]; exact Int.emod_lt_of_pos _ (by omega)
        have zt : z.tmod 2 = z % 2 := Int.tmod_eq_emod_of_nonneg z0
        have wj : IntKind.i64.wrap (7 + (j : Int)) = 7 + (j : Int) := IntWalk.i64_in _ (by omega)
        have hc6a : (wr.alloc (.cells #[.bool (z % 2 == 1)] 4)).cell? ⟨w.heap.size + 1, 6, none⟩ = some (.slice B j d) := (World.cell?_alloc_lt wr _ ⟨w.heap.size + 1, 6, none⟩ hz5).trans hc6'
        have HZv := Lib.hid hz
        clear hz hc6
        have HU : Hid ((upB v j).map Value.bool ++ [.bool (z % 2 == 1)] = (upB v (j + 1)).map Value.bool) := by rw [upB_succ, HZv.out, List.map_append]; rfl
        go_wp2_with fail
        go_region_law (first
          | (refine step_append_to (.tmp 86) (.tmp 93) 23 (w.heap.size + 2) 4 (.bool false) 1 Try.underlying23 infoBool rfl (.slice B j d) j ((upB v j).map Value.bool) 1 [.bool (z % 2 == 1)] (j + 1) ((upB v (j + 1)).map Value.bool) rfl HU.out (by simp [Value.oneCell']) (by omega) (by omega) ?_ ?_ ?_ ?_ ?_
             · exact ⟨rfl, rfl, rfl⟩
             · first | exact HK.out.alloc _ | exact (HK.out.alloc _).drew | exact HK.out.drew.alloc _
             · first
                 | exact ⟨_, _, rfl, built_row _ _ [.bool (z % 2 == 1)] _ (Below.refl _ _)⟩
                 | exact ⟨_, _, rfl, built_row _ _ [.bool (z % 2 == 1)] _ (Below.refl _ _).drew⟩
             · simp; omega
             intro A8 c8 w8 ho8 hg8
             have hO8 : WholeV w8 (w.heap.size + 1) 48 [.int .i64 15, .int .i64 d5, .int .i64 (14 + (1 + d2)), .int .u16 0, .int .u16 0, .int .u16 0, .slice B j d, .slice none 0 0, .int .i64 0, .int .i64 0, .int .i64 0, .int .i64 0] := by
               first
                 | exact whole_grown (w := (wr.alloc (.cells #[.bool (z % 2 == 1)] 4)).drew) (HO.out.alloc _) hg8 (own_ne HK.out (by omega))
                 | exact whole_grown (HO.out.alloc _) hg8 (own_ne HK.out (by omega))
             have hZ8 : WholeV w8 w.heap.size 48 [.int .i64 0, .int .i64 0, .int .i64 0, .int .u16 0, .int .u16 0, .int .u16 0, .slice none 0 0, .slice none 0 0, .int .i64 0, .int .i64 0, .int .i64 0, .int .i64 0] := by
               first
                 | exact whole_grown (w := (wr.alloc (.cells #[.bool (z % 2 == 1)] 4)).drew) (HZ.out.alloc _) hg8 (own_ne HK.out (by omega))
                 | exact whole_grown (HZ.out.alloc _) hg8 (own_ne HK.out (by omega))
             have hB8 : Below w.heap.size w w8 := by
               first
                 | exact below_append (HB.out.alloc HB.out.size _) (own_mono (HK.out.alloc _) (by omega)) hg8 (by simp; omega)
                 | exact below_append (HB.out.alloc HB.out.size _).drew (own_mono (HK.out.alloc _).drew (by omega)) hg8 (by simp; omega)
             have hc8 : w8.cell? ⟨w.heap.size + 1, 6, none⟩ = some (.slice B j d) := hO8.cell 6
             have hf8 := hO8.frozen 6
             have HO8 := Lib.hid hO8
             have HZ8 := Lib.hid hZ8
             have HB8 := Lib.hid hB8
             have HK8 := Lib.hid ho8
             clear hO8 hZ8 hB8 ho8 hg8)
          | (go_simp; go_at_call 11; (with_reducible refine (within_lit v (7 + (j : Int)) z _ HZv.out v0 v1 (by omega) (by omega)).mono ?_); rintro e w' ⟨rfl, rfl⟩))
        all_goals
          go_wp2
          go_roundw
          case rel =>
            refine ⟨j + 1, A8, c8, by omega, by go_num, ?_, ?_, ?_, ?_⟩
            · exact HO8.out.set 6 (.slice A8 (j + 1) c8)
            · exact HZ8.out.below ((Below.refl (w.heap.size + 1) _).setCell (p := ⟨w.heap.size + 1, 6, none⟩) (Nat.le_refl _) _) (Nat.lt_succ_self _)
            · exact own_far HK8.out ⟨w.heap.size + 1, 6, none⟩ (Nat.lt_succ_self _) _
            · exact HB8.out.setCell (p := ⟨w.heap.size + 1, 6, none⟩) (Nat.le_succ _) _
          case measure => simp [intOf]; omega
      · obtain rfl : j = (14 + (1 + d2)).toNat := by omega
        have hge : ¬ ((((14 + (1 + d2)).toNat : Nat) : Int) < 14 + (1 + d2)) := by omega
        obtain ⟨hq0, hq1, hq2, hq3, hq4, hq5, hq6, hq7, hq8, hq9, hq10, hq11⟩ := cells12 HO.out
        obtain ⟨hp0, hp1, hp2, hp3, hp4, hp5, hp6, hp7, hp8, hp9, hp10, hp11⟩ := cells12 HZ.out
        have hg0 := HZ.out.frozen 0
        have hg1 := HZ.out.frozen 1
        have hg2 := HZ.out.frozen 2
        have hg3 := HZ.out.frozen 3
        have hg4 := HZ.out.frozen 4
        have hg5 := HZ.out.frozen 5
        have hg6 := HZ.out.frozen 6
        have hg7 := HZ.out.frozen 7
        have hg8 := HZ.out.frozen 8
        have hg9 := HZ.out.frozen 9
        have hg10 := HZ.out.frozen 10
        have hg11 := HZ.out.frozen 11
        go_wp2
        exact end12s Try.results15 HZ.out rfl HB.out rfl fun w9 hbb hk => ⟨B, none, d, 0, rfl, own_mono (own_blk HK.out hk (show w.heap.size < w.heap.size + 2 by omega)) (by omega), own_none _ _ _, hbb⟩

set_option maxRecDepth 100000 in
set_option maxHeartbeats 2000000 in
theorem lask_10b (k v : Int) (k0 : -9223372036854775808 ≤ k) (k1 : k ≤ 9223372036854775807) (v0 : -9223372036854775808 ≤ v) (v1 : v ≤ 9223372036854775807) (hq : k % 16 = 10) (h3' : ¬ ((k.tdiv 3840) % 12 = 0)) (hv' : ((v.tdiv 64) % 3 = 0)) : AskIs k v := by
  obtain ⟨d1, hd1⟩ : ∃ z, (k.tdiv 16) % 40 = z := ⟨_, rfl⟩
  have d1l : 0 ≤ d1 := by omega
  have d1h : d1 < 40 := by omega
  have HD1 := Lib.hid hd1
  clear hd1
  obtain ⟨d2, hd2⟩ : ∃ z, (k.tdiv 640) % 6 = z := ⟨_, rfl⟩
  have d2l : 0 ≤ d2 := by omega
  have d2h : d2 < 6 := by omega
  have HD2 := Lib.hid hd2
  clear hd2
  obtain ⟨d3, hd3⟩ : ∃ z, (k.tdiv 3840) % 12 = z := ⟨_, rfl⟩
  have d3l : 0 ≤ d3 := by omega
  have d3h : d3 < 12 := by omega
  have HD3 := Lib.hid hd3
  have h3 : ¬ d3 = 0 := by rw [← hd3]; exact h3'
  have hb3 : (d3 == 0) = false := by simpa using h3
  clear h3'
  clear hd3
  obtain ⟨d4, hd4⟩ : ∃ z, (k.tdiv 46080) % 65536 = z := ⟨_, rfl⟩
  have d4l : 0 ≤ d4 := by omega
  have d4h : d4 < 65536 := by omega
  have HD4 := Lib.hid hd4
  clear hd4
  obtain ⟨e3, he3⟩ : ∃ z, (v.tdiv 64) % 3 = z := ⟨_, rfl⟩
  have e3l : 0 ≤ e3 := by omega
  have e3h : e3 < 3 := by omega
  have HE3 := Lib.hid he3
  have h4 : e3 = 0 := by rw [← he3]; exact hv'
  clear hv'
  clear he3
  obtain ⟨d5, hd5⟩ : ∃ z, (k.tdiv 16) % 20 = z := ⟨_, rfl⟩
  have d5l : 0 ≤ d5 := by omega
  have d5h : d5 < 20 := by omega
  have HD5 := Lib.hid hd5
  clear hd5
  have HQ := Lib.hid hq
  clear hq
  all_goals
    refine ⟨15, d5, (14 + (1 + d2)), 0, 0, 0, ((14 + (1 + d2)).toNat), 0, 0, 0, 0, 0, upB v ((14 + (1 + d2)).toNat), [], ⟨⟨rfl, by unfold plainP; omega, by omega, by omega, by have m1 : kMostR 15 = 0 := rfl; have m2 : kMostW 15 = 1968 := rfl; unfold fitsP; omega⟩, wide_of (by omega) (by omega) (by omega) (by omega) (by omega) (by omega) (by omega) (by omega) (by omega), (by intro x hx; cases hx), upB_length _ _, rfl⟩, fun w => ?_⟩
    go_enter Try.func15, Try.ntmps15
    go_wp2_with (first
      | (go_at_call 19; (with_reducible refine (digit_lit k 16 40 _ _ HD1.out k0 k1 (by omega) (by omega) (by omega) (by omega)).mono ?_); rintro e w' ⟨rfl, rfl⟩)
      | (go_at_call 19; (with_reducible refine (digit_lit k 640 6 _ _ HD2.out k0 k1 (by omega) (by omega) (by omega) (by omega)).mono ?_); rintro e w' ⟨rfl, rfl⟩)
      | (go_at_call 19; (with_reducible refine (digit_lit k 3840 12 _ _ HD3.out k0 k1 (by omega) (by omega) (by omega) (by omega)).mono ?_); rintro e w' ⟨rfl, rfl⟩)
      | (go_at_call 19; (with_reducible refine (digit_lit k 46080 65536 _ _ HD4.out k0 k1 (by omega) (by omega) (by omega) (by omega)).mono ?_); rintro e w' ⟨rfl, rfl⟩)
      | (go_at_call 11; (with_reducible refine (within_lit k 16 _ _ HQ.out k0 k1 (by omega) (by omega)).mono ?_); rintro e w' ⟨rfl, rfl⟩)
      | (go_at_call 19; (with_reducible refine (digit_lit v 64 3 _ _ HE3.out v0 v1 (by omega) (by omega) (by omega) (by omega)).mono ?_); rintro e w' ⟨rfl, rfl⟩)
      | (go_at_call 19; (with_reducible refine (digit_lit k 16 20 _ _ HD5.out k0 k1 (by omega) (by omega) (by omega) (by omega)).mono ?_); rintro e w' ⟨rfl, rfl⟩))
    go_loopw [8] (fun i wr => ∃ (j : Nat) (B : Option Addr) (d : Nat), j ≤ (14 + (1 + d2)).toNat ∧ i = .int .i64 (j : Int) ∧ Hid (WholeV wr (w.heap.size + 1) 48 [.int .i64 15, .int .i64 d5, .int .i64 (14 + (1 + d2)), .int .u16 0, .int .u16 0, .int .u16 0, .slice B j d, .slice none 0 0, .int .i64 0, .int .i64 0, .int .i64 0, .int .i64 0]) ∧ Hid (WholeV wr w.heap.size 48 [.int .i64 0, .int .i64 0, .int .i64 0, .int .u16 0, .int .u16 0, .int .u16 0, .slice none 0 0, .slice none 0 0, .int .i64 0, .int .i64 0, .int .i64 0, .int .i64 0]) ∧ Hid (wr.ownsRow (w.heap.size + 2) 4 1 (.slice B j d) j ((upB v j).map Value.bool)) ∧ Hid (Below w.heap.size w wr)) (fun i _ => (14 + (1 + d2)).toNat - (intOf i).toNat)
    case atStart =>
      have hs0 : (w.alloc (.cells #[.int .i64 0, .int .i64 0, .int .i64 0, .int .u16 0, .int .u16 0, .int .u16 0, .slice none 0 0, .slice none 0 0, .int .i64 0, .int .i64 0, .int .i64 0, .int .i64 0] 48)).heap.size = w.heap.size + 1 := by simp
      have hk0 : WholeV (w.alloc (.cells #[.int .i64 0, .int .i64 0, .int .i64 0, .int .u16 0, .int .u16 0, .int .u16 0, .slice none 0 0, .slice none 0 0, .int .i64 0, .int .i64 0, .int .i64 0, .int .i64 0] 48)) w.heap.size 48 [.int .i64 0, .int .i64 0, .int .i64 0, .int .u16 0, .int .u16 0, .int .u16 0, .slice none 0 0, .slice none 0 0, .int .i64 0, .int .i64 0, .int .i64 0, .int .i64 0] := heap_alloc_new w _
      have hk1 := heap_alloc_new (w.alloc (.cells #[.int .i64 0, .int .i64 0, .int .i64 0, .int .u16 0, .int .u16 0, .int .u16 0, .slice none 0 0, .slice none 0 0, .int .i64 0, .int .i64 0, .int .i64 0, .int .i64 0] 48)) (.cells #[.int .i64 15, .int .i64 d5, .int .i64 (14 + (1 + d2)), .int .u16 0, .int .u16 0, .int .u16 0, .slice none 0 0, .slice none 0 0, .int .i64 0, .int .i64 0, .int .i64 0, .int .i64 0] 48)
      rw [hs0] at hk1
      exact ⟨0, none, 0, by omega, rfl, hk1, hk0.below ((Below.refl _ _).alloc (Nat.le_refl _) _) (by simp), own_none _ _ _, ((Below.refl _ _).alloc (Nat.le_refl _) _).alloc (by simp) _⟩
    case round =>
      obtain ⟨j, B, d, hj, rfl, HO, HZ, HK, HB⟩ := hrel
      have hz5 : w.heap.size + 2 ≤ wr.heap.size := HO.out.lt
      by_cases hlt : j < (14 + (1 + d2)).toNat
      · have hi : (j : Int) < 14 + (1 + d2) := by omega
        have hc6 := HO.out.cell 6
        have hf6 := HO.out.frozen 6
        have hc6' : wr.cell? ⟨w.heap.size + 1, 6, none⟩ = some (.slice B j d) := hc6
        obtain ⟨z, hz⟩ : ∃ z, v % (7 + (j : Int)) = z := ⟨_, rfl⟩
        have z0 : 0 ≤ z := by rw [← hz]; exact Int.emod_nonneg _ (by omega)
        have z1 : z < 7 + (j : Int) := by rw [← hz]; exact Int.emod_lt_of_pos _ (by omega)
        have zt : z.tmod 2 = z % 2 := Int.tmod_eq_emod_of_nonneg z0
        have wj : IntKind.i64.wrap (7 + (j : Int)) = 7 + (j : Int) := IntWalk.i64_in _ (by omega)
        have hc6a : (wr.alloc (.cells #[.bool (z % 2 == 1)] 4)).cell? ⟨w.heap.size + 1, 6, none⟩ = some (.slice B j d) := (World.cell?_alloc_lt wr _ ⟨w.heap.size + 1, 6, none⟩ hz5).trans hc6'
        have HZv := Lib.hid hz
        clear hz hc6
        have HU : Hid ((upB v j).map Value.bool ++ [.bool (z % 2 == 1)] = (upB v (j + 1)).map Value.bool) := by rw [upB_succ, HZv.out, List.map_append]; rfl
        go_wp2_with fail
        go_region_law (first
          | (refine step_append_to (.tmp 86) (.tmp 93) 23 (w.heap.size + 2) 4 (.bool false) 1 Try.underlying23 infoBool rfl (.slice B j d) j ((upB v j).map Value.bool) 1 [.bool (z % 2 == 1)] (j + 1) ((upB v (j + 1)).map Value.bool) rfl HU.out (by simp [Value.oneCell']) (by omega) (by omega) ?_ ?_ ?_ ?_ ?_
             · exact ⟨rfl, rfl, rfl⟩
             · first | exact HK.out.alloc _ | exact (HK.out.alloc _).drew | exact HK.out.drew.alloc _
             · first
                 | exact ⟨_, _, rfl, built_row _ _ [.bool (z % 2 == 1)] _ (Below.refl _ _)⟩
                 | exact ⟨_, _, rfl, built_row _ _ [.bool (z % 2 == 1)] _ (Below.refl _ _).drew⟩
             · simp; omega
             intro A8 c8 w8 ho8 hg8
             have hO8 : WholeV w8 (w.heap.size + 1) 48 [.int .i64 15, .int .i64 d5, .int .i64 (14 + (1 + d2)), .int .u16 0, .int .u16 0, .int .u16 0, .slice B j d, .slice none 0 0, .int .i64 0, .int .i64 0, .int .i64 0, .int .i64 0] := by
               first
                 | exact whole_grown (w := (wr.alloc (.cells #[.bool (z % 2 == 1)] 4)).drew) (HO.out.alloc _) hg8 (own_ne HK.out (by omega))
                 | exact whole_grown (HO.out.alloc _) hg8 (own_ne HK.out (by omega))
             have hZ8 : WholeV w8 w.heap.size 48 [.int .i64 0, .int .i64 0, .int .i64 0, .int .u16 0, .int .u16 0, .int .u16 0, .slice none 0 0, .slice none 0 0, .int .i64 0, .int .i64 0, .int .i64 0, .int .i64 0] := by
               first
                 | exact whole_grown (w := (wr.alloc (.cells #[.bool (z % 2 == 1)] 4)).drew) (HZ.out.alloc _) hg8 (own_ne HK.out (by omega))
                 | exact whole_grown (HZ.out.alloc _) hg8 (own_ne HK.out (by omega))
             have hB8 : Below w.heap.size w w8 := by
               first
                 | exact below_append (HB.out.alloc HB.out.size _) (own_mono (HK.out.alloc _) (by omega)) hg8 (by simp; omega)
                 | exact below_append (HB.out.alloc HB.out.size _).drew (own_mono (HK.out.alloc _).drew (by omega)) hg8 (by simp; omega)
             have hc8 : w8.cell? ⟨w.heap.size + 1, 6, none⟩ = some (.slice B j d) := hO8.cell 6
             have hf8 := hO8.frozen 6
             have HO8 := Lib.hid hO8
             have HZ8 := Lib.hid hZ8
             have HB8 := Lib.hid hB8
             have HK8 := Lib.hid ho8
             clear hO8 hZ8 hB8 ho8 hg8)
          | (go_simp; go_at_call 11; (with_reducible refine (within_lit v (7 + (j : Int)) z _ HZv.out v0 v1 (by omega) (by omega)).mono ?_); rintro e w' ⟨rfl, rfl⟩))
        all_goals
          go_wp2
          go_roundw
          case rel =>
            refine ⟨j + 1, A8, c8, by omega, by go_num, ?_, ?_, ?_, ?_⟩
            · exact HO8.out.set 6 (.slice A8 (j + 1) c8)
            · exact HZ8.out.below ((Below.refl (w.heap.size + 1) _).setCell (p := ⟨w.heap.size + 1, 6, none⟩) (Nat.le_refl _) _) (Nat.lt_succ_self _)
            · exact own_far HK8.out ⟨w.heap.size + 1, 6, none⟩ (Nat.lt_succ_self _) _
            · exact HB8.out.setCell (p := ⟨w.heap.size + 1, 6, none⟩) (Nat.le_succ _) _
          case measure => simp [intOf]; omega
      · obtain rfl : j = (14 + (1 + d2)).toNat := by omega
        have hge : ¬ ((((14 + (1 + d2)).toNat : Nat) : Int) < 14 + (1 + d2)) := by omega
        obtain ⟨hq0, hq1, hq2, hq3, hq4, hq5, hq6, hq7, hq8, hq9, hq10, hq11⟩ := cells12 HO.out
        obtain ⟨hp0, hp1, hp2, hp3, hp4, hp5, hp6, hp7, hp8, hp9, hp10, hp11⟩ := cells12 HZ.out
        have hg0 := HZ.out.frozen 0
        have hg1 := HZ.out.frozen 1
        have hg2 := HZ.out.frozen 2
        have hg3 := HZ.out.frozen 3
        have hg4 := HZ.out.frozen 4
        have hg5 := HZ.out.frozen 5
        have hg6 := HZ.out.frozen 6
        have hg7 := HZ.out.frozen 7
        have hg8 := HZ.out.frozen 8
        have hg9 := HZ.out.frozen 9
        have hg10 := HZ.out.frozen 10
        have hg11 := HZ.out.frozen 11
        go_wp2
        exact end12s Try.results15 HZ.out rfl HB.out rfl fun w9 hbb hk => ⟨B, none, d, 0, rfl, own_mono (own_blk HK.out hk (show w.heap.size < w.heap.size + 2 by omega)) (by omega), own_none _ _ _, hbb⟩

set_option maxRecDepth 100000 in
set_option maxHeartbeats 2000000 in
theorem lask_10c (k v : Int) (k0 : -9223372036854775808 ≤ k) (k1 : k ≤ 9223372036854775807) (v0 : -9223372036854775808 ≤ v) (v1 : v ≤ 9223372036854775807) (hq : k % 16 = 10) (h3' : ((k.tdiv 3840) % 12 = 0)) (hv' : ¬ ((v.tdiv 64) % 3 = 0)) : AskIs k v := by
  obtain ⟨d1, hd1⟩ : ∃ z, (k.tdiv 16) % 40 = z := ⟨_, rfl⟩
  have d1l : 0 ≤ d1 := by omega
  have d1h : d1 < 40 := by omega
  have HD1 := Lib.hid hd1
  clear hd1
  obtain ⟨d2, hd2⟩ : ∃ z, (k.tdiv 640) % 6 = z := ⟨_, rfl⟩
  have d2l : 0 ≤ d2 := by omega
  have d2h : d2 < 6 := by omega
  have HD2 := Lib.hid hd2
  clear hd2
  obtain ⟨d3, hd3⟩ : ∃ z, (k.tdiv 3840) % 12 = z := ⟨_, rfl⟩
  have d3l : 0 ≤ d3 := by omega
  have d3h : d3 < 12 := by omega
  have HD3 := Lib.hid hd3
  have h3 : d3 = 0 := by rw [← hd3]; exact h3'
  clear h3'
  clear hd3
  obtain ⟨d4, hd4⟩ : ∃ z, (k.tdiv 46080) % 65536 = z := ⟨_, rfl⟩
  have d4l : 0 ≤ d4 := by omega
  have d4h : d4 < 65536 := by omega
  have HD4 := Lib.hid hd4
  clear hd4
  obtain ⟨e3, he3⟩ : ∃ z, (v.tdiv 64) % 3 = z := ⟨_, rfl⟩
  have e3l : 0 ≤ e3 := by omega
  have e3h : e3 < 3 := by omega
  have HE3 := Lib.hid he3
  have h4 : ¬ e3 = 0 := by rw [← he3]; exact hv'
  have hb4 : (e3 == 0) = false := by simpa using h4
  clear hv'
  clear he3
  obtain ⟨d5, hd5⟩ : ∃ z, (k.tdiv 16) % 20 = z := ⟨_, rfl⟩
  have d5l : 0 ≤ d5 := by omega
  have d5h : d5 < 20 := by omega
  have HD5 := Lib.hid hd5
  clear hd5
  have HQ := Lib.hid hq
  clear hq
  all_goals
    refine ⟨15, d4, (1 + d2), 0, 0, 0, ((1 + d2).toNat), 0, 0, 0, 0, 0, upB v ((1 + d2).toNat), [], ⟨⟨rfl, by unfold plainP; omega, by omega, by omega, by have m1 : kMostR 15 = 0 := rfl; have m2 : kMostW 15 = 1968 := rfl; unfold fitsP; omega⟩, wide_of (by omega) (by omega) (by omega) (by omega) (by omega) (by omega) (by omega) (by omega) (by omega), (by intro x hx; cases hx), upB_length _ _, rfl⟩, fun w => ?_⟩
    go_enter Try.func15, Try.ntmps15
    go_wp2_with (first
      | (go_at_call 19; (with_reducible refine (digit_lit k 16 40 _ _ HD1.out k0 k1 (by omega) (by omega) (by omega) (by omega)).mono ?_); rintro e w' ⟨rfl, rfl⟩)
      | (go_at_call 19; (with_reducible refine (digit_lit k 640 6 _ _ HD2.out k0 k1 (by omega) (by omega) (by omega) (by omega)).mono ?_); rintro e w' ⟨rfl, rfl⟩)
      | (go_at_call 19; (with_reducible refine (digit_lit k 3840 12 _ _ HD3.out k0 k1 (by omega) (by omega) (by omega) (by omega)).mono ?_); rintro e w' ⟨rfl, rfl⟩)
      | (go_at_call 19; (with_reducible refine (digit_lit k 46080 65536 _ _ HD4.out k0 k1 (by omega) (by omega) (by omega) (by omega)).mono ?_); rintro e w' ⟨rfl, rfl⟩)
      | (go_at_call 11; (with_reducible refine (within_lit k 16 _ _ HQ.out k0 k1 (by omega) (by omega)).mono ?_); rintro e w' ⟨rfl, rfl⟩)
      | (go_at_call 19; (with_reducible refine (digit_lit v 64 3 _ _ HE3.out v0 v1 (by omega) (by omega) (by omega) (by omega)).mono ?_); rintro e w' ⟨rfl, rfl⟩)
      | (go_at_call 19; (with_reducible refine (digit_lit k 16 20 _ _ HD5.out k0 k1 (by omega) (by omega) (by omega) (by omega)).mono ?_); rintro e w' ⟨rfl, rfl⟩))
    go_loopw [8] (fun i wr => ∃ (j : Nat) (B : Option Addr) (d : Nat), j ≤ (1 + d2).toNat ∧ i = .int .i64 (j : Int) ∧ Hid (WholeV wr (w.heap.size + 1) 48 [.int .i64 15, .int .i64 d4, .int .i64 (1 + d2), .int .u16 0, .int .u16 0, .int .u16 0, .slice B j d, .slice none 0 0, .int .i64 0, .int .i64 0, .int .i64 0, .int .i64 0]) ∧ Hid (WholeV wr w.heap.size 48 [.int .i64 0, .int .i64 0, .int .i64 0, .int .u16 0, .int .u16 0, .int .u16 0, .slice none 0 0, .slice none 0 0, .int .i64 0, .int .i64 0, .int .i64 0, .int .i64 0]) ∧ Hid (wr.ownsRow (w.heap.size + 2) 4 1 (.slice B j d) j ((upB v j).map Value.bool)) ∧ Hid (Below w.heap.size w wr)) (fun i _ => (1 + d2).toNat - (intOf i).toNat)
    case atStart =>
      have hs0 : (w.alloc (.cells #[.int .i64 0, .int .i64 0, .int .i64 0, .int .u16 0, .int .u16 0, .int .u16 0, .slice none 0 0, .slice none 0 0, .int .i64 0, .int .i64 0, .int .i64 0, .int .i64 0] 48)).heap.size = w.heap.size + 1 := by simp
      have hk0 : WholeV (w.alloc (.cells #[.int .i64 0, .int .i64 0, .int .i64 0, .int .u16 0, .int .u16 0, .int .u16 0, .slice none 0 0, .slice none 0 0, .int .i64 0, .int .i64 0, .int .i64 0, .int .i64 0] 48)) w.heap.size 48 [.int .i64 0, .int .i64 0, .int .i64 0, .int .u16 0, .int .u16 0, .int .u16 0, .slice none 0 0, .slice none 0 0, .int .i64 0, .int .i64 0, .int .i64 0, .int .i64 0] := heap_alloc_new w _
      have hk1 := heap_alloc_new (w.alloc (.cells #[.int .i64 0, .int .i64 0, .int .i64 0, .int .u16 0, .int .u16 0, .int .u16 0, .slice none 0 0, .slice none 0 0, .int .i64 0, .int .i64 0, .int .i64 0, .int .i64 0] 48)) (.cells #[.int .i64 15, .int .i64 d4, .int .i64 (1 + d2), .int .u16 0, .int .u16 0, .int .u16 0, .slice none 0 0, .slice none 0 0, .int .i64 0, .int .i64 0, .int .i64 0, .int .i64 0] 48)
      rw [hs0] at hk1
      exact ⟨0, none, 0, by omega, rfl, hk1, hk0.below ((Below.refl _ _).alloc (Nat.le_refl _) _) (by simp), own_none _ _ _, ((Below.refl _ _).alloc (Nat.le_refl _) _).alloc (by simp) _⟩
    case round =>
      obtain ⟨j, B, d, hj, rfl, HO, HZ, HK, HB⟩ := hrel
      have hz5 : w.heap.size + 2 ≤ wr.heap.size := HO.out.lt
      by_cases hlt : j < (1 + d2).toNat
      · have hi : (j : Int) < 1 + d2 := by omega
        have hc6 := HO.out.cell 6
        have hf6 := HO.out.frozen 6
        have hc6' : wr.cell? ⟨w.heap.size + 1, 6, none⟩ = some (.slice B j d) := hc6
        obtain ⟨z, hz⟩ : ∃ z, v % (7 + (j : Int)) = z := ⟨_, rfl⟩
        have z0 : 0 ≤ z := by rw [← hz]; exact Int.emod_nonneg _ (by omega)
        have z1 : z < 7 + (j : Int) := by rw [← hz]; exact Int.emod_lt_of_pos _ (by omega)
        have zt : z.tmod 2 = z % 2 := Int.tmod_eq_emod_of_nonneg z0
        have wj : IntKind.i64.wrap (7 + (j : Int)) = 7 + (j : Int) := IntWalk.i64_in _ (by omega)
        have hc6a : (wr.alloc (.cells #[.bool (z % 2 == 1)] 4)).cell? ⟨w.heap.size + 1, 6, none⟩ = some (.slice B j d) := (World.cell?_alloc_lt wr _ ⟨w.heap.size + 1, 6, none⟩ hz5).trans hc6'
        have HZv := Lib.hid hz
        clear hz hc6
        have HU : Hid ((upB v j).map Value.bool ++ [.bool (z % 2 == 1)] = (upB v (j + 1)).map Value.bool) := by rw [upB_succ, HZv.out, List.map_append]; rfl
        go_wp2_with fail
        go_region_law (first
          | (refine step_append_to (.tmp 86) (.tmp 93) 23 (w.heap.size + 2) 4 (.bool false) 1 Try.underlying23 infoBool rfl (.slice B j d) j ((upB v j).map Value.bool) 1 [.bool (z % 2 == 1)] (j + 1) ((upB v (j + 1)).map Value.bool) rfl HU.out (by simp [Value.oneCell']) (by omega) (by omega) ?_ ?_ ?_ ?_ ?_
             · exact ⟨rfl, rfl, rfl⟩
             · first | exact HK.out.alloc _ | exact (HK.out.alloc _).drew | exact HK.out.drew.alloc _
             · first
                 | exact ⟨_, _, rfl, built_row _ _ [.bool (z % 2 == 1)] _ (Below.refl _ _)⟩
                 | exact ⟨_, _, rfl, built_row _ _ [.bool (z % 2 == 1)] _ (Below.refl _ _).drew⟩
             · simp; omega
             intro A8 c8 w8 ho8 hg8
             have hO8 : WholeV w8 (w.heap.size + 1) 48 [.int .i64 15, .int .i64 d4, .int .i64 (1 + d2), .int .u16 0, .int .u16 0, .int .u16 0, .slice B j d, .slice none 0 0, .int .i64 0, .int .i64 0, .int .i64 0, .int .i64 0] := by
               first
                 | exact whole_grown (w := (wr.alloc (.cells #[.bool (z % 2 == 1)] 4)).drew) (HO.out.alloc _) hg8 (own_ne HK.out (by omega))
                 | exact whole_grown (HO.out.alloc _) hg8 (own_ne HK.out (by omega))
             have hZ8 : WholeV w8 w.heap.size 48 [.int .i64 0, .int .i64 0, .int .i64 0, .int .u16 0, .int .u16 0, .int .u16 0, .slice none 0 0, .slice none 0 0, .int .i64 0, .int .i64 0, .int .i64 0, .int .i64 0] := by
               first
                 | exact whole_grown (w := (wr.alloc (.cells #[.bool (z % 2 == 1)] 4)).drew) (HZ.out.alloc _) hg8 (own_ne HK.out (by omega))
                 | exact whole_grown (HZ.out.alloc _) hg8 (own_ne HK.out (by omega))
             have hB8 : Below w.heap.size w w8 := by
               first
                 | exact below_append (HB.out.alloc HB.out.size _) (own_mono (HK.out.alloc _) (by omega)) hg8 (by simp; omega)
                 | exact below_append (HB.out.alloc HB.out.size _).drew (own_mono (HK.out.alloc _).drew (by omega)) hg8 (by simp; omega)
             have hc8 : w8.cell? ⟨w.heap.size + 1, 6, none⟩ = some (.slice B j d) := hO8.cell 6
             have hf8 := hO8.frozen 6
             have HO8 := Lib.hid hO8
             have HZ8 := Lib.hid hZ8
             have HB8 := Lib.hid hB8
             have HK8 := Lib.hid ho8
             clear hO8 hZ8 hB8 ho8 hg8)
          | (go_simp; go_at_call 11; (with_reducible refine (within_lit v (7 + (j : Int)) z _ HZv.out v0 v1 (by omega) (by omega)).mono ?_); rintro e w' ⟨rfl, rfl⟩))
        all_goals
          go_wp2
          go_roundw
          case rel =>
            refine ⟨j + 1, A8, c8, by omega, by go_num, ?_, ?_, ?_, ?_⟩
            · exact HO8.out.set 6 (.slice A8 (j + 1) c8)
            · exact HZ8.out.below ((Below.refl (w.heap.size + 1) _).setCell (p := ⟨w.heap.size + 1, 6, none⟩) (Nat.le_refl _) _) (Nat.lt_succ_self _)
            · exact own_far HK8.out ⟨w.heap.size + 1, 6, none⟩ (Nat.lt_succ_self _) _
            · exact HB8.out.setCell (p := ⟨w.heap.size + 1, 6, none⟩) (Nat.le_succ _) _
          case measure => simp [intOf]; omega
      · obtain rfl : j = (1 + d2).toNat := by omega
        have hge : ¬ ((((1 + d2).toNat : Nat) : Int) < 1 + d2) := by omega
        obtain ⟨hq0, hq1, hq2, hq3, hq4, hq5, hq6, hq7, hq8, hq9, hq10, hq11⟩ := cells12 HO.out
        obtain ⟨hp0, hp1, hp2, hp3, hp4, hp5, hp6, hp7, hp8, hp9, hp10, hp11⟩ := cells12 HZ.out
        have hg0 := HZ.out.frozen 0
        have hg1 := HZ.out.frozen 1
        have hg2 := HZ.out.frozen 2
        have hg3 := HZ.out.frozen 3
        have hg4 := HZ.out.frozen 4
        have hg5 := HZ.out.frozen 5
        have hg6 := HZ.out.frozen 6
        have hg7 := HZ.out.frozen 7
        have hg8 := HZ.out.frozen 8
        have hg9 := HZ.out.frozen 9
        have hg10 := HZ.out.frozen 10
        have hg11 := HZ.out.frozen 11
        go_wp2
        exact end12s Try.results15 HZ.out rfl HB.out rfl fun w9 hbb hk => ⟨B, none, d, 0, rfl, own_mono (own_blk HK.out hk (show w.heap.size < w.heap.size + 2 by omega)) (by omega), own_none _ _ _, hbb⟩

set_option maxRecDepth 100000 in
set_option maxHeartbeats 2000000 in
theorem lask_10d (k v : Int) (k0 : -9223372036854775808 ≤ k) (k1 : k ≤ 9223372036854775807) (v0 : -9223372036854775808 ≤ v) (v1 : v ≤ 9223372036854775807) (hq : k % 16 = 10) (h3' : ¬ ((k.tdiv 3840) % 12 = 0)) (hv' : ¬ ((v.tdiv 64) % 3 = 0)) : AskIs k v := by
  obtain ⟨d1, hd1⟩ : ∃ z, (k.tdiv 16) % 40 = z := ⟨_, rfl⟩
  have d1l : 0 ≤ d1 := by omega
  have d1h : d1 < 40 := by omega
  have HD1 := Lib.hid hd1
  clear hd1
  obtain ⟨d2, hd2⟩ : ∃ z, (k.tdiv 640) % 6 = z := ⟨_, rfl⟩
  have d2l : 0 ≤ d2 := by omega
  have d2h : d2 < 6 := by omega
  have HD2 := Lib.hid hd2
  clear hd2
  obtain ⟨d3, hd3⟩ : ∃ z, (k.tdiv 3840) % 12 = z := ⟨_, rfl⟩
  have d3l : 0 ≤ d3 := by omega
  have d3h : d3 < 12 := by omega
  have HD3 := Lib.hid hd3
  have h3 : ¬ d3 = 0 := by rw [← hd3]; exact h3'
  have hb3 : (d3 == 0) = false := by simpa using h3
  clear h3'
  clear hd3
  obtain ⟨d4, hd4⟩ : ∃ z, (k.tdiv 46080) % 65536 = z := ⟨_, rfl⟩
  have d4l : 0 ≤ d4 := by omega
  have d4h : d4 < 65536 := by omega
  have HD4 := Lib.hid hd4
  clear hd4
  obtain ⟨e3, he3⟩ : ∃ z, (v.tdiv 64) % 3 = z := ⟨_, rfl⟩
  have e3l : 0 ≤ e3 := by omega
  have e3h : e3 < 3 := by omega
  have HE3 := Lib.hid he3
  have h4 : ¬ e3 = 0 := by rw [← he3]; exact hv'
  have hb4 : (e3 == 0) = false := by simpa using h4
  clear hv'
  clear he3
  obtain ⟨d5, hd5⟩ : ∃ z, (k.tdiv 16) % 20 = z := ⟨_, rfl⟩
  have d5l : 0 ≤ d5 := by omega
  have d5h : d5 < 20 := by omega
  have HD5 := Lib.hid hd5
  clear hd5
  have HQ := Lib.hid hq
  clear hq
  all_goals
    refine ⟨15, d1, (1 + d2), 0, 0, 0, ((1 + d2).toNat), 0, 0, 0, 0, 0, upB v ((1 + d2).toNat), [], ⟨⟨rfl, by unfold plainP; omega, by omega, by omega, by have m1 : kMostR 15 = 0 := rfl; have m2 : kMostW 15 = 1968 := rfl; unfold fitsP; omega⟩, wide_of (by omega) (by omega) (by omega) (by omega) (by omega) (by omega) (by omega) (by omega) (by omega), (by intro x hx; cases hx), upB_length _ _, rfl⟩, fun w => ?_⟩
    go_enter Try.func15, Try.ntmps15
    go_wp2_with (first
      | (go_at_call 19; (with_reducible refine (digit_lit k 16 40 _ _ HD1.out k0 k1 (by omega) (by omega) (by omega) (by omega)).mono ?_); rintro e w' ⟨rfl, rfl⟩)
      | (go_at_call 19; (with_reducible refine (digit_lit k 640 6 _ _ HD2.out k0 k1 (by omega) (by omega) (by omega) (by omega)).mono ?_); rintro e w' ⟨rfl, rfl⟩)
      | (go_at_call 19; (with_reducible refine (digit_lit k 3840 12 _ _ HD3.out k0 k1 (by omega) (by omega) (by omega) (by omega)).mono ?_); rintro e w' ⟨rfl, rfl⟩)
      | (go_at_call 19; (with_reducible refine (digit_lit k 46080 65536 _ _ HD4.out k0 k1 (by omega) (by omega) (by omega) (by omega)).mono ?_); rintro e w' ⟨rfl, rfl⟩)
      | (go_at_call 11; (with_reducible refine (within_lit k 16 _ _ HQ.out k0 k1 (by omega) (by omega)).mono ?_); rintro e w' ⟨rfl, rfl⟩)
      | (go_at_call 19; (with_reducible refine (digit_lit v 64 3 _ _ HE3.out v0 v1 (by omega) (by omega) (by omega) (by omega)).mono ?_); rintro e w' ⟨rfl, rfl⟩)
      | (go_at_call 19; (with_reducible refine (digit_lit k 16 20 _ _ HD5.out k0 k1 (by omega) (by omega) (by omega) (by omega)).mono ?_); rintro e w' ⟨rfl, rfl⟩))
    go_loopw [8] (fun i wr => ∃ (j : Nat) (B : Option Addr) (d : Nat), j ≤ (1 + d2).toNat ∧ i = .int .i64 (j : Int) ∧ Hid (WholeV wr (w.heap.size + 1) 48 [.int .i64 15, .int .i64 d1, .int .i64 (1 + d2), .int .u16 0, .int .u16 0, .int .u16 0, .slice B j d, .slice none 0 0, .int .i64 0, .int .i64 0, .int .i64 0, .int .i64 0]) ∧ Hid (WholeV wr w.heap.size 48 [.int .i64 0, .int .i64 0, .int .i64 0, .int .u16 0, .int .u16 0, .int .u16 0, .slice none 0 0, .slice none 0 0, .int .i64 0, .int .i64 0, .int .i64 0, .int .i64 0]) ∧ Hid (wr.ownsRow (w.heap.size + 2) 4 1 (.slice B j d) j ((upB v j).map Value.bool)) ∧ Hid (Below w.heap.size w wr)) (fun i _ => (1 + d2).toNat - (intOf i).toNat)
    case atStart =>
      have hs0 : (w.alloc (.cells #[.int .i64 0, .int .i64 0, .int .i64 0, .int .u16 0, .int .u16 0, .int .u16 0, .slice none 0 0, .slice none 0 0, .int .i64 0, .int .i64 0, .int .i64 0, .int .i64 0] 48)).heap.size = w.heap.size + 1 := by simp
      have hk0 : WholeV (w.alloc (.cells #[.int .i64 0, .int .i64 0, .int .i64 0, .int .u16 0, .int .u16 0, .int .u16 0, .slice none 0 0, .slice none 0 0, .int .i64 0, .int .i64 0, .int .i64 0, .int .i64 0] 48)) w.heap.size 48 [.int .i64 0, .int .i64 0, .int .i64 0, .int .u16 0, .int .u16 0, .int .u16 0, .slice none 0 0, .slice none 0 0, .int .i64 0, .int .i64 0, .int .i64 0, .int .i64 0] := heap_alloc_new w _
      have hk1 := heap_alloc_new (w.alloc (.cells #[.int .i64 0, .int .i64 0, .int .i64 0, .int .u16 0, .int .u16 0, .int .u16 0, .slice none 0 0, .slice none 0 0, .int .i64 0, .int .i64 0, .int .i64 0, .int .i64 0] 48)) (.cells #[.int .i64 15, .int .i64 d1, .int .i64 (1 + d2), .int .u16 0, .int .u16 0, .int .u16 0, .slice none 0 0, .slice none 0 0, .int .i64 0, .int .i64 0, .int .i64 0, .int .i64 0] 48)
      rw [hs0] at hk1
      exact ⟨0, none, 0, by omega, rfl, hk1, hk0.below ((Below.refl _ _).alloc (Nat.le_refl _) _) (by simp), own_none _ _ _, ((Below.refl _ _).alloc (Nat.le_refl _) _).alloc (by simp) _⟩
    case round =>
      obtain ⟨j, B, d, hj, rfl, HO, HZ, HK, HB⟩ := hrel
      have hz5 : w.heap.size + 2 ≤ wr.heap.size := HO.out.lt
      by_cases hlt : j < (1 + d2).toNat
      · have hi : (j : Int) < 1 + d2 := by omega
        have hc6 := HO.out.cell 6
        have hf6 := HO.out.frozen 6
        have hc6' : wr.cell? ⟨w.heap.size + 1, 6, none⟩ = some (.slice B j d) := hc6
        obtain ⟨z, hz⟩ : ∃ z, v % (7 + (j : Int)) = z := ⟨_, rfl⟩
        have z0 : 0 ≤ z := by rw [← hz]; exact Int.emod_nonneg _ (by omega)
        have z1 : z < 7 + (j : Int) := by rw [← hz]; exact Int.emod_lt_of_pos _ (by omega)
        have zt : z.tmod 2 = z % 2 := Int.tmod_eq_emod_of_nonneg z0
        have wj : IntKind.i64.wrap (7 + (j : Int)) = 7 + (j : Int) := IntWalk.i64_in _ (by omega)
        have hc6a : (wr.alloc (.cells #[.bool (z % 2 == 1)] 4)).cell? ⟨w.heap.size + 1, 6, none⟩ = some (.slice B j d) := (World.cell?_alloc_lt wr _ ⟨w.heap.size + 1, 6, none⟩ hz5).trans hc6'
        have HZv := Lib.hid hz
        clear hz hc6
        have HU : Hid ((upB v j).map Value.bool ++ [.bool (z % 2 == 1)] = (upB v (j + 1)).map Value.bool) := by rw [upB_succ, HZv.out, List.map_append]; rfl
        go_wp2_with fail
        go_region_law (first
          | (refine step_append_to (.tmp 86) (.tmp 93) 23 (w.heap.size + 2) 4 (.bool false) 1 Try.underlying23 infoBool rfl (.slice B j d) j ((upB v j).map Value.bool) 1 [.bool (z % 2 == 1)] (j + 1) ((upB v (j + 1)).map Value.bool) rfl HU.out (by simp [Value.oneCell']) (by omega) (by omega) ?_ ?_ ?_ ?_ ?_
             · exact ⟨rfl, rfl, rfl⟩
             · first | exact HK.out.alloc _ | exact (HK.out.alloc _).drew | exact HK.out.drew.alloc _
             · first
                 | exact ⟨_, _, rfl, built_row _ _ [.bool (z % 2 == 1)] _ (Below.refl _ _)⟩
                 | exact ⟨_, _, rfl, built_row _ _ [.bool (z % 2 == 1)] _ (Below.refl _ _).drew⟩
             · simp; omega
             intro A8 c8 w8 ho8 hg8
             have hO8 : WholeV w8 (w.heap.size + 1) 48 [.int .i64 15, .int .i64 d1, .int .i64 (1 + d2), .int .u16 0, .int .u16 0, .int .u16 0, .slice B j d, .slice none 0 0, .int .i64 0, .int .i64 0, .int .i64 0, .int .i64 0] := by
               first
                 | exact whole_grown (w := (wr.alloc (.cells #[.bool (z % 2 == 1)] 4)).drew) (HO.out.alloc _) hg8 (own_ne HK.out (by omega))
                 | exact whole_grown (HO.out.alloc _) hg8 (own_ne HK.out (by omega))
             have hZ8 : WholeV w8 w.heap.size 48 [.int .i64 0, .int .i64 0, .int .i64 0, .int .u16 0, .int .u16 0, .int .u16 0, .slice none 0 0, .slice none 0 0, .int .i64 0, .int .i64 0, .int .i64 0, .int .i64 0] := by
               first
                 | exact whole_grown (w := (wr.alloc (.cells #[.bool (z % 2 == 1)] 4)).drew) (HZ.out.alloc _) hg8 (own_ne HK.out (by omega))
                 | exact whole_grown (HZ.out.alloc _) hg8 (own_ne HK.out (by omega))
             have hB8 : Below w.heap.size w w8 := by
               first
                 | exact below_append (HB.out.alloc HB.out.size _) (own_mono (HK.out.alloc _) (by omega)) hg8 (by simp; omega)
                 | exact below_append (HB.out.alloc HB.out.size _).drew (own_mono (HK.out.alloc _).drew (by omega)) hg8 (by simp; omega)
             have hc8 : w8.cell? ⟨w.heap.size + 1, 6, none⟩ = some (.slice B j d) := hO8.cell 6
             have hf8 := hO8.frozen 6
             have HO8 := Lib.hid hO8
             have HZ8 := Lib.hid hZ8
             have HB8 := Lib.hid hB8
             have HK8 := Lib.hid ho8
             clear hO8 hZ8 hB8 ho8 hg8)
          | (go_simp; go_at_call 11; (with_reducible refine (within_lit v (7 + (j : Int)) z _ HZv.out v0 v1 (by omega) (by omega)).mono ?_); rintro e w' ⟨rfl, rfl⟩))
        all_goals
          go_wp2
          go_roundw
          case rel =>
            refine ⟨j + 1, A8, c8, by omega, by go_num, ?_, ?_, ?_, ?_⟩
            · exact HO8.out.set 6 (.slice A8 (j + 1) c8)
            · exact HZ8.out.below ((Below.refl (w.heap.size + 1) _).setCell (p := ⟨w.heap.size + 1, 6, none⟩) (Nat.le_refl _) _) (Nat.lt_succ_self _)
            · exact own_far HK8.out ⟨w.heap.size + 1, 6, none⟩ (Nat.lt_succ_self _) _
            · exact HB8.out.setCell (p := ⟨w.heap.size + 1, 6, none⟩) (Nat.le_succ _) _
          case measure => simp [intOf]; omega
      · obtain rfl : j = (1 + d2).toNat := by omega
        have hge : ¬ ((((1 + d2).toNat : Nat) : Int) < 1 + d2) := by omega
        obtain ⟨hq0, hq1, hq2, hq3, hq4, hq5, hq6, hq7, hq8, hq9, hq10, hq11⟩ := cells12 HO.out
        obtain ⟨hp0, hp1, hp2, hp3, hp4, hp5, hp6, hp7, hp8, hp9, hp10, hp11⟩ := cells12 HZ.out
        have hg0 := HZ.out.frozen 0
        have hg1 := HZ.out.frozen 1
        have hg2 := HZ.out.frozen 2
        have hg3 := HZ.out.frozen 3
        have hg4 := HZ.out.frozen 4
        have hg5 := HZ.out.frozen 5
        have hg6 := HZ.out.frozen 6
        have hg7 := HZ.out.frozen 7
        have hg8 := HZ.out.frozen 8
        have hg9 := HZ.out.frozen 9
        have hg10 := HZ.out.frozen 10
        have hg11 := HZ.out.frozen 11
        go_wp2
        exact end12s Try.results15 HZ.out rfl HB.out rfl fun w9 hbb hk => ⟨B, none, d, 0, rfl, own_mono (own_blk HK.out hk (show w.heap.size < w.heap.size + 2 by omega)) (by omega), own_none _ _ _, hbb⟩

theorem lask_is (k v : Int) (k0 : -9223372036854775808 ≤ k) (k1 : k ≤ 9223372036854775807) (v0 : -9223372036854775808 ≤ v) (v1 : v ≤ 9223372036854775807) : AskIs k v := by
  rcases (by omega : k % 16 = 0 ∨ k % 16 = 1 ∨ k % 16 = 2 ∨ k % 16 = 3 ∨ k % 16 = 4 ∨ k % 16 = 5 ∨ k % 16 = 6 ∨ k % 16 = 7 ∨ k % 16 = 8 ∨ k % 16 = 9 ∨ k % 16 = 10 ∨ k % 16 = 11 ∨ k % 16 = 12 ∨ k % 16 = 13 ∨ k % 16 = 14 ∨ k % 16 = 15) with h | h | h | h | h | h | h | h | h | h | h | h | h | h | h | h
  · exact lask_0 k v k0 k1 v0 v1 h
  · exact lask_1 k v k0 k1 v0 v1 h
  · exact lask_2 k v k0 k1 v0 v1 h
  · exact lask_3 k v k0 k1 v0 v1 h
  · exact lask_4 k v k0 k1 v0 v1 h
  · exact lask_5 k v k0 k1 v0 v1 h
  · exact lask_6 k v k0 k1 v0 v1 h
  · exact lask_7 k v k0 k1 v0 v1 h
  · exact lask_8 k v k0 k1 v0 v1 h
  · exact lask_9 k v k0 k1 v0 v1 h
  · by_cases h3 : (k.tdiv 3840) % 12 = 0 <;> by_cases h4 : (v.tdiv 64) % 3 = 0
    · exact lask_10a k v k0 k1 v0 v1 h h3 h4
    · exact lask_10c k v k0 k1 v0 v1 h h3 h4
    · exact lask_10b k v k0 k1 v0 v1 h h3 h4
    · exact lask_10d k v k0 k1 v0 v1 h h3 h4
  · by_cases h3 : (k.tdiv 3840) % 12 = 0
    · exact lask_11a k v k0 k1 v0 v1 h h3
    · exact lask_11b k v k0 k1 v0 v1 h h3
  · by_cases h3 : (k.tdiv 3840) % 12 = 0
    · exact lask_12a k v k0 k1 v0 v1 h h3
    · exact lask_12b k v k0 k1 v0 v1 h h3
  · exact lask_13 k v k0 k1 v0 v1 h
  · by_cases h3 : (k.tdiv 3840) % 12 = 0
    · exact lask_14a k v k0 k1 v0 v1 h h3
    · exact lask_14b k v k0 k1 v0 v1 h h3
  · exact lask_15 k v k0 k1 v0 v1 h

theorem lask_any (k v : Int) (w : World) (k0 : -9223372036854775808 ≤ k) (k1 : k ≤ 9223372036854775807) (v0 : -9223372036854775808 ≤ v) (v1 : v ≤ 9223372036854775807) :
    Calls Try.prog 15 #[.int .i64 k, .int .i64 v] w (AskTo w) := by
  obtain ⟨fn, at_, n, x, an, orr, bl, wl, ra, rn, co, ob, bs, ws, ⟨g1, g2, g3, _, _⟩, h⟩ := lask_is k v k0 k1 v0 v1
  exact (h w).mono fun e w' ⟨BA, WA, bc, wc, h1, h2, h3, h4⟩ => ⟨fn, at_, n, x, an, orr, bl, wl, ra, rn, co, ob, BA, WA, bc, wc, bs, ws, h1, g1, g2, g3, h2, h3, h4⟩

end Go.Proofs.Ytielfekkonflfaa

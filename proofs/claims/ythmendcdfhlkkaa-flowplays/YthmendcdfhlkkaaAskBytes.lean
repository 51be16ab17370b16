/- The document's AskBytes. -/
import Derived.Test.YthmendcdfhlkkaaAskWords
namespace Go.Proofs.Ythmendcdfhlkkaa
open Go.ChangeShapes Go.WideShapes Go.ChangeAt Go.RowKit
set_option linter.unusedVariables false
set_option linter.unusedSimpArgs false

theorem right_yes (fn at_ n v an orr : Int) (bl wl : Nat) (ra rn co ob : Int) (BA WA : Option Addr) (bc wc : Nat) (w : World) (h : rightP fn at_ n v an orr bl wl ra rn co ob) :
    Calls Try.prog 63 #[.agg #[.int .i64 fn, .int .i64 at_, .int .i64 n, .int .u16 v, .int .u16 an, .int .u16 orr, .slice BA bl bc, .slice WA wl wc, .int .i64 ra, .int .i64 rn, .int .i64 co, .int .i64 ob]] w fun e w' => e = .returned (.bool true) ∧ Below w.heap.size w w' := by
  have := rright_any fn at_ n v an orr bl wl ra rn co ob BA WA bc wc w
  rwa [decide_eq_true h] at this
theorem right_no (fn at_ n v an orr : Int) (bl wl : Nat) (ra rn co ob : Int) (BA WA : Option Addr) (bc wc : Nat) (w : World) (h : ¬ rightP fn at_ n v an orr bl wl ra rn co ob) :
    Calls Try.prog 63 #[.agg #[.int .i64 fn, .int .i64 at_, .int .i64 n, .int .u16 v, .int .u16 an, .int .u16 orr, .slice BA bl bc, .slice WA wl wc, .int .i64 ra, .int .i64 rn, .int .i64 co, .int .i64 ob]] w fun e w' => e = .returned (.bool false) ∧ Below w.heap.size w w' := by
  have := rright_any fn at_ n v an orr bl wl ra rn co ob BA WA bc wc w
  rwa [decide_eq_false h] at this

theorem rbytes_no (fn at_ n v an orr : Int) (bl wl : Nat) (ra rn co ob : Int) (BA WA : Option Addr) (bc wc : Nat) (w : World) (h : ¬ rightP fn at_ n v an orr bl wl ra rn co ob) :
    Calls Try.prog 37 #[.agg #[.int .i64 fn, .int .i64 at_, .int .i64 n, .int .u16 v, .int .u16 an, .int .u16 orr, .slice BA bl bc, .slice WA wl wc, .int .i64 ra, .int .i64 rn, .int .i64 co, .int .i64 ob]] w fun e w' => e = .returned (.tuple #[.slice none 0 0, .int .i64 1]) ∧ Below w.heap.size w w' := by
  have HRt := Lib.hid h
  clear h
  go_enter Try.func37, Try.ntmps37
  go_wp2_with (go_at_call 63; refine (right_no fn at_ n v an orr bl wl ra rn co ob BA WA bc wc _ HRt.out).mono ?_; rintro e w4 ⟨rfl, hb4⟩)
  go_ret2
  exact ⟨rfl, ((Below.refl _ _).alloc (Nat.le_refl _) _).trans (hb4.mono (by simp))⟩

set_option maxRecDepth 100000 in
set_option maxHeartbeats 1000000 in
theorem rbytes_1 (at_ n v an orr : Int) (bl wl : Nat) (ra rn co ob : Int) (BA WA : Option Addr) (bc wc : Nat) (w : World) (hrt : rightP 1 at_ n v an orr bl wl ra rn co ob) :
    Calls Try.prog 37 #[.agg #[.int .i64 1, .int .i64 at_, .int .i64 n, .int .u16 v, .int .u16 an, .int .u16 orr, .slice BA bl bc, .slice WA wl wc, .int .i64 ra, .int .i64 rn, .int .i64 co, .int .i64 ob]] w fun e w' => ∃ C cap, e = .returned (.tuple #[.slice C 5 cap, .int .i64 0]) ∧ Row .u8 w' w'.heap.size C 5 [1, at_ / 256, at_ % 256, n / 256, n % 256] ∧ Below w.heap.size w w' := by
  have hrt0 := hrt
  obtain ⟨_, hpl, ⟨a0, a1⟩, ⟨r0, r1⟩, hfit⟩ := hrt0
  unfold plainP at hpl
  unfold fitsP at hfit
  have hm : kMostR 1 = 2000 := rfl
  have n0 : 0 ≤ n := by omega
  have n1 : n ≤ 65535 := by omega
  clear hm
  clear hfit hpl
  have HRt := Lib.hid hrt
  clear hrt
  go_enter Try.func37, Try.ntmps37
  go_wp2_with (
       go_at_call 63
       refine (right_yes 1 at_ n v an orr bl wl ra rn co ob BA WA bc wc _ HRt.out).mono ?_
       rintro e w4 ⟨rfl, hb4⟩
       have HB4 : Hid (Below w.heap.size w w4) := ((Below.refl _ _).alloc (Nat.le_refl _) _).trans (hb4.mono (by simp))
       have hk4 : Below (w.heap.size + 1) (w.alloc (.cells #[.int .i64 1, .int .i64 at_, .int .i64 n, .int .u16 v, .int .u16 an, .int .u16 orr, .slice BA bl bc, .slice WA wl wc, .int .i64 ra, .int .i64 rn, .int .i64 co, .int .i64 ob] 51)) w4 := by
         rwa [show (w.alloc (.cells #[.int .i64 1, .int .i64 at_, .int .i64 n, .int .u16 v, .int .u16 an, .int .u16 orr, .slice BA bl bc, .slice WA wl wc, .int .i64 ra, .int .i64 rn, .int .i64 co, .int .i64 ob] 51)).heap.size = w.heap.size + 1 by simp] at hb4
       have hz4 : w.heap.size + 1 ≤ w4.heap.size := by have := hk4.size; simp at this; omega
       have HK4 := Lib.hid hk4
       obtain ⟨hc0, hc1, hc2, hc3, hc4, hc5, hc6, hc7, hc8, hc9, hc10, hc11⟩ := box12 _ _ _ _ _ _ _ _ _ _ _ _ _ w w4 hk4
       have hd0 : (w4.alloc (.cells #[.int .u8 1] 5)).cell? ⟨w.heap.size, 0, none⟩ = some (.int .i64 1) := (World.cell?_alloc_lt w4 _ ⟨w.heap.size, 0, none⟩ hz4).trans hc0
       clear hb4 hk4 hc1 hc2 hc3 hc4 hc5 hc6 hc7 hc8 hc9 hc10 hc11)
  obtain ⟨w5, hw5⟩ : ∃ w5, w4.alloc (.cells #[.int .u8 1] 5) = w5 := ⟨_, rfl⟩
  have hb5 : Below w4.heap.size w4 w5 := by rw [← hw5]; exact (Below.refl _ _).alloc (Nat.le_refl _) _
  have HB5 : Hid (Below w.heap.size w w5) := HB4.out.trans (hb5.mono HB4.out.size)
  have HK5 := Lib.hid (HK4.out.trans (hb5.mono hz4))
  have HZ5 : Hid (w.heap.size + 1 ≤ w5.heap.size) := Nat.le_trans hz4 hb5.size
  have HO5 : Hid (RowV w5 w5.heap.size (some ⟨w4.heap.size, 0, none⟩) 1 [.int .u8 1]) := by rw [← hw5]; exact built_row w4 _ [.int .u8 1] _ (Below.refl _ _)
  have KS : Hid (∀ W, Below w5.heap.size w5 W → W.cell? ⟨w.heap.size, 1, none⟩ = some (.int .i64 at_) ∧ W.cell? ⟨w.heap.size, 2, none⟩ = some (.int .i64 n) ∧ Below w5.heap.size w5 W) := by
    intro W hb
    obtain ⟨_, hc1, hc2, hc3, hc4, hc5, hc6, hc7, hc8, hc9, hc10, hc11⟩ := box12 _ _ _ _ _ _ _ _ _ _ _ _ _ w W (HK5.out.trans (hb.mono HZ5.out))
    exact ⟨hc1, hc2, hb⟩
  have KB : Hid (∀ W, (W.cell? ⟨w.heap.size, 1, none⟩ = some (.int .i64 at_) ∧ W.cell? ⟨w.heap.size, 2, none⟩ = some (.int .i64 n) ∧ Below w5.heap.size w5 W) → Below w5.heap.size w5 W) := fun W hs => hs.2.2
  have KT : Hid (∀ W W', (W.cell? ⟨w.heap.size, 1, none⟩ = some (.int .i64 at_) ∧ W.cell? ⟨w.heap.size, 2, none⟩ = some (.int .i64 n) ∧ Below w5.heap.size w5 W) → Below W.heap.size W W' → W'.cell? ⟨w.heap.size, 1, none⟩ = some (.int .i64 at_) ∧ W'.cell? ⟨w.heap.size, 2, none⟩ = some (.int .i64 n) ∧ Below w5.heap.size w5 W') := fun W W' hs hb => KS.out _ ((KB.out _ hs).trans (hb.mono (KB.out _ hs).size))
  rw [hw5]
  clear hw5 hb5
  go_region_held3 (fun W => W.cell? ⟨w.heap.size, 1, none⟩ = some (.int .i64 at_) ∧ W.cell? ⟨w.heap.size, 2, none⟩ = some (.int .i64 n) ∧ Below w5.heap.size w5 W)
    (first
      | exact KS.out _ (Below.refl _ _).drew
      | exact KT.out _ _ (by assumption) hb7
      | exact KT.out _ _ (by assumption) hb6
      | exact KT.out _ _ (by assumption) ((Below.refl _ _).alloc (Nat.le_refl _) _))
    (first
      | (go_at_call 80
         (with_reducible refine (two_on (some ⟨w4.heap.size, 0, none⟩) 1 1 _ [1] at_ _ 3 [1, at_ / 256, at_ % 256] rfl rfl rfl ?_ a0 a1 (by omega)).mono ?_)
         · first | exact HO5.out | exact (HO5.out.below (KB.out _ (by assumption))).more (KB.out _ (by assumption)).size
         have hz6 := (KB.out _ (by assumption)).size
         rintro e w6 ⟨g6, c6, rfl, ho6, hb6⟩)
      | (go_at_call 80
         (with_reducible refine (two_on (some ⟨g6, 0, none⟩) 3 c6 _ [1, at_ / 256, at_ % 256] n _ 5 [1, at_ / 256, at_ % 256, n / 256, n % 256] rfl rfl rfl ?_ n0 n1 (by omega)).mono ?_)
         · first | exact own_row ho6 | exact own_row (ho6.alloc _)
         have hz7 := (KB.out _ (by assumption)).size
         rintro e w7 ⟨g7, c7, rfl, ho7, hb7⟩))
  all_goals
    go_wp2
    go_ret2
    exact ⟨_, _, rfl, (own_row ho7).ints, HB5.out.trans ((KB.out _ (by assumption)).mono HB5.out.size)⟩

set_option maxRecDepth 100000 in
set_option maxHeartbeats 1000000 in
theorem rbytes_2 (at_ n v an orr : Int) (bl wl : Nat) (ra rn co ob : Int) (BA WA : Option Addr) (bc wc : Nat) (w : World) (hrt : rightP 2 at_ n v an orr bl wl ra rn co ob) :
    Calls Try.prog 37 #[.agg #[.int .i64 2, .int .i64 at_, .int .i64 n, .int .u16 v, .int .u16 an, .int .u16 orr, .slice BA bl bc, .slice WA wl wc, .int .i64 ra, .int .i64 rn, .int .i64 co, .int .i64 ob]] w fun e w' => ∃ C cap, e = .returned (.tuple #[.slice C 5 cap, .int .i64 0]) ∧ Row .u8 w' w'.heap.size C 5 [2, at_ / 256, at_ % 256, n / 256, n % 256] ∧ Below w.heap.size w w' := by
  have hrt0 := hrt
  obtain ⟨_, hpl, ⟨a0, a1⟩, ⟨r0, r1⟩, hfit⟩ := hrt0
  unfold plainP at hpl
  unfold fitsP at hfit
  have hm : kMostR 2 = 2000 := rfl
  have n0 : 0 ≤ n := by omega
  have n1 : n ≤ 65535 := by omega
  clear hm
  clear hfit hpl
  have HRt := Lib.hid hrt
  clear hrt
  go_enter Try.func37, Try.ntmps37
  go_wp2_with (
       go_at_call 63
       refine (right_yes 2 at_ n v an orr bl wl ra rn co ob BA WA bc wc _ HRt.out).mono ?_
       rintro e w4 ⟨rfl, hb4⟩
       have HB4 : Hid (Below w.heap.size w w4) := ((Below.refl _ _).alloc (Nat.le_refl _) _).trans (hb4.mono (by simp))
       have hk4 : Below (w.heap.size + 1) (w.alloc (.cells #[.int .i64 2, .int .i64 at_, .int .i64 n, .int .u16 v, .int .u16 an, .int .u16 orr, .slice BA bl bc, .slice WA wl wc, .int .i64 ra, .int .i64 rn, .int .i64 co, .int .i64 ob] 51)) w4 := by
         rwa [show (w.alloc (.cells #[.int .i64 2, .int .i64 at_, .int .i64 n, .int .u16 v, .int .u16 an, .int .u16 orr, .slice BA bl bc, .slice WA wl wc, .int .i64 ra, .int .i64 rn, .int .i64 co, .int .i64 ob] 51)).heap.size = w.heap.size + 1 by simp] at hb4
       have hz4 : w.heap.size + 1 ≤ w4.heap.size := by have := hk4.size; simp at this; omega
       have HK4 := Lib.hid hk4
       obtain ⟨hc0, hc1, hc2, hc3, hc4, hc5, hc6, hc7, hc8, hc9, hc10, hc11⟩ := box12 _ _ _ _ _ _ _ _ _ _ _ _ _ w w4 hk4
       have hd0 : (w4.alloc (.cells #[.int .u8 2] 5)).cell? ⟨w.heap.size, 0, none⟩ = some (.int .i64 2) := (World.cell?_alloc_lt w4 _ ⟨w.heap.size, 0, none⟩ hz4).trans hc0
       clear hb4 hk4 hc1 hc2 hc3 hc4 hc5 hc6 hc7 hc8 hc9 hc10 hc11)
  obtain ⟨w5, hw5⟩ : ∃ w5, w4.alloc (.cells #[.int .u8 2] 5) = w5 := ⟨_, rfl⟩
  have hb5 : Below w4.heap.size w4 w5 := by rw [← hw5]; exact (Below.refl _ _).alloc (Nat.le_refl _) _
  have HB5 : Hid (Below w.heap.size w w5) := HB4.out.trans (hb5.mono HB4.out.size)
  have HK5 := Lib.hid (HK4.out.trans (hb5.mono hz4))
  have HZ5 : Hid (w.heap.size + 1 ≤ w5.heap.size) := Nat.le_trans hz4 hb5.size
  have HO5 : Hid (RowV w5 w5.heap.size (some ⟨w4.heap.size, 0, none⟩) 1 [.int .u8 2]) := by rw [← hw5]; exact built_row w4 _ [.int .u8 2] _ (Below.refl _ _)
  have KS : Hid (∀ W, Below w5.heap.size w5 W → W.cell? ⟨w.heap.size, 1, none⟩ = some (.int .i64 at_) ∧ W.cell? ⟨w.heap.size, 2, none⟩ = some (.int .i64 n) ∧ Below w5.heap.size w5 W) := by
    intro W hb
    obtain ⟨_, hc1, hc2, hc3, hc4, hc5, hc6, hc7, hc8, hc9, hc10, hc11⟩ := box12 _ _ _ _ _ _ _ _ _ _ _ _ _ w W (HK5.out.trans (hb.mono HZ5.out))
    exact ⟨hc1, hc2, hb⟩
  have KB : Hid (∀ W, (W.cell? ⟨w.heap.size, 1, none⟩ = some (.int .i64 at_) ∧ W.cell? ⟨w.heap.size, 2, none⟩ = some (.int .i64 n) ∧ Below w5.heap.size w5 W) → Below w5.heap.size w5 W) := fun W hs => hs.2.2
  have KT : Hid (∀ W W', (W.cell? ⟨w.heap.size, 1, none⟩ = some (.int .i64 at_) ∧ W.cell? ⟨w.heap.size, 2, none⟩ = some (.int .i64 n) ∧ Below w5.heap.size w5 W) → Below W.heap.size W W' → W'.cell? ⟨w.heap.size, 1, none⟩ = some (.int .i64 at_) ∧ W'.cell? ⟨w.heap.size, 2, none⟩ = some (.int .i64 n) ∧ Below w5.heap.size w5 W') := fun W W' hs hb => KS.out _ ((KB.out _ hs).trans (hb.mono (KB.out _ hs).size))
  rw [hw5]
  clear hw5 hb5
  go_region_held3 (fun W => W.cell? ⟨w.heap.size, 1, none⟩ = some (.int .i64 at_) ∧ W.cell? ⟨w.heap.size, 2, none⟩ = some (.int .i64 n) ∧ Below w5.heap.size w5 W)
    (first
      | exact KS.out _ (Below.refl _ _).drew
      | exact KT.out _ _ (by assumption) hb7
      | exact KT.out _ _ (by assumption) hb6
      | exact KT.out _ _ (by assumption) ((Below.refl _ _).alloc (Nat.le_refl _) _))
    (first
      | (go_at_call 80
         (with_reducible refine (two_on (some ⟨w4.heap.size, 0, none⟩) 1 1 _ [2] at_ _ 3 [2, at_ / 256, at_ % 256] rfl rfl rfl ?_ a0 a1 (by omega)).mono ?_)
         · first | exact HO5.out | exact (HO5.out.below (KB.out _ (by assumption))).more (KB.out _ (by assumption)).size
         have hz6 := (KB.out _ (by assumption)).size
         rintro e w6 ⟨g6, c6, rfl, ho6, hb6⟩)
      | (go_at_call 80
         (with_reducible refine (two_on (some ⟨g6, 0, none⟩) 3 c6 _ [2, at_ / 256, at_ % 256] n _ 5 [2, at_ / 256, at_ % 256, n / 256, n % 256] rfl rfl rfl ?_ n0 n1 (by omega)).mono ?_)
         · first | exact own_row ho6 | exact own_row (ho6.alloc _)
         have hz7 := (KB.out _ (by assumption)).size
         rintro e w7 ⟨g7, c7, rfl, ho7, hb7⟩))
  all_goals
    go_wp2
    go_ret2
    exact ⟨_, _, rfl, (own_row ho7).ints, HB5.out.trans ((KB.out _ (by assumption)).mono HB5.out.size)⟩

set_option maxRecDepth 100000 in
set_option maxHeartbeats 1000000 in
theorem rbytes_3 (at_ n v an orr : Int) (bl wl : Nat) (ra rn co ob : Int) (BA WA : Option Addr) (bc wc : Nat) (w : World) (hrt : rightP 3 at_ n v an orr bl wl ra rn co ob) :
    Calls Try.prog 37 #[.agg #[.int .i64 3, .int .i64 at_, .int .i64 n, .int .u16 v, .int .u16 an, .int .u16 orr, .slice BA bl bc, .slice WA wl wc, .int .i64 ra, .int .i64 rn, .int .i64 co, .int .i64 ob]] w fun e w' => ∃ C cap, e = .returned (.tuple #[.slice C 5 cap, .int .i64 0]) ∧ Row .u8 w' w'.heap.size C 5 [3, at_ / 256, at_ % 256, n / 256, n % 256] ∧ Below w.heap.size w w' := by
  have hrt0 := hrt
  obtain ⟨_, hpl, ⟨a0, a1⟩, ⟨r0, r1⟩, hfit⟩ := hrt0
  unfold plainP at hpl
  unfold fitsP at hfit
  have hm : kMostR 3 = 125 := rfl
  have n0 : 0 ≤ n := by omega
  have n1 : n ≤ 65535 := by omega
  clear hm
  clear hfit hpl
  have HRt := Lib.hid hrt
  clear hrt
  go_enter Try.func37, Try.ntmps37
  go_wp2_with (
       go_at_call 63
       refine (right_yes 3 at_ n v an orr bl wl ra rn co ob BA WA bc wc _ HRt.out).mono ?_
       rintro e w4 ⟨rfl, hb4⟩
       have HB4 : Hid (Below w.heap.size w w4) := ((Below.refl _ _).alloc (Nat.le_refl _) _).trans (hb4.mono (by simp))
       have hk4 : Below (w.heap.size + 1) (w.alloc (.cells #[.int .i64 3, .int .i64 at_, .int .i64 n, .int .u16 v, .int .u16 an, .int .u16 orr, .slice BA bl bc, .slice WA wl wc, .int .i64 ra, .int .i64 rn, .int .i64 co, .int .i64 ob] 51)) w4 := by
         rwa [show (w.alloc (.cells #[.int .i64 3, .int .i64 at_, .int .i64 n, .int .u16 v, .int .u16 an, .int .u16 orr, .slice BA bl bc, .slice WA wl wc, .int .i64 ra, .int .i64 rn, .int .i64 co, .int .i64 ob] 51)).heap.size = w.heap.size + 1 by simp] at hb4
       have hz4 : w.heap.size + 1 ≤ w4.heap.size := by have := hk4.size; simp at this; omega
       have HK4 := Lib.hid hk4
       obtain ⟨hc0, hc1, hc2, hc3, hc4, hc5, hc6, hc7, hc8, hc9, hc10, hc11⟩ := box12 _ _ _ _ _ _ _ _ _ _ _ _ _ w w4 hk4
       have hd0 : (w4.alloc (.cells #[.int .u8 3] 5)).cell? ⟨w.heap.size, 0, none⟩ = some (.int .i64 3) := (World.cell?_alloc_lt w4 _ ⟨w.heap.size, 0, none⟩ hz4).trans hc0
       clear hb4 hk4 hc1 hc2 hc3 hc4 hc5 hc6 hc7 hc8 hc9 hc10 hc11)
  obtain ⟨w5, hw5⟩ : ∃ w5, w4.alloc (.cells #[.int .u8 3] 5) = w5 := ⟨_, rfl⟩
  have hb5 : Below w4.heap.size w4 w5 := by rw [← hw5]; exact (Below.refl _ _).alloc (Nat.le_refl _) _
  have HB5 : Hid (Below w.heap.size w w5) := HB4.out.trans (hb5.mono HB4.out.size)
  have HK5 := Lib.hid (HK4.out.trans (hb5.mono hz4))
  have HZ5 : Hid (w.heap.size + 1 ≤ w5.heap.size) := Nat.le_trans hz4 hb5.size
  have HO5 : Hid (RowV w5 w5.heap.size (some ⟨w4.heap.size, 0, none⟩) 1 [.int .u8 3]) := by rw [← hw5]; exact built_row w4 _ [.int .u8 3] _ (Below.refl _ _)
  have KS : Hid (∀ W, Below w5.heap.size w5 W → W.cell? ⟨w.heap.size, 1, none⟩ = some (.int .i64 at_) ∧ W.cell? ⟨w.heap.size, 2, none⟩ = some (.int .i64 n) ∧ Below w5.heap.size w5 W) := by
    intro W hb
    obtain ⟨_, hc1, hc2, hc3, hc4, hc5, hc6, hc7, hc8, hc9, hc10, hc11⟩ := box12 _ _ _ _ _ _ _ _ _ _ _ _ _ w W (HK5.out.trans (hb.mono HZ5.out))
    exact ⟨hc1, hc2, hb⟩
  have KB : Hid (∀ W, (W.cell? ⟨w.heap.size, 1, none⟩ = some (.int .i64 at_) ∧ W.cell? ⟨w.heap.size, 2, none⟩ = some (.int .i64 n) ∧ Below w5.heap.size w5 W) → Below w5.heap.size w5 W) := fun W hs => hs.2.2
  have KT : Hid (∀ W W', (W.cell? ⟨w.heap.size, 1, none⟩ = some (.int .i64 at_) ∧ W.cell? ⟨w.heap.size, 2, none⟩ = some (.int .i64 n) ∧ Below w5.heap.size w5 W) → Below W.heap.size W W' → W'.cell? ⟨w.heap.size, 1, none⟩ = some (.int .i64 at_) ∧ W'.cell? ⟨w.heap.size, 2, none⟩ = some (.int .i64 n) ∧ Below w5.heap.size w5 W') := fun W W' hs hb => KS.out _ ((KB.out _ hs).trans (hb.mono (KB.out _ hs).size))
  rw [hw5]
  clear hw5 hb5
  go_region_held3 (fun W => W.cell? ⟨w.heap.size, 1, none⟩ = some (.int .i64 at_) ∧ W.cell? ⟨w.heap.size, 2, none⟩ = some (.int .i64 n) ∧ Below w5.heap.size w5 W)
    (first
      | exact KS.out _ (Below.refl _ _).drew
      | exact KT.out _ _ (by assumption) hb7
      | exact KT.out _ _ (by assumption) hb6
      | exact KT.out _ _ (by assumption) ((Below.refl _ _).alloc (Nat.le_refl _) _))
    (first
      | (go_at_call 80
         (with_reducible refine (two_on (some ⟨w4.heap.size, 0, none⟩) 1 1 _ [3] at_ _ 3 [3, at_ / 256, at_ % 256] rfl rfl rfl ?_ a0 a1 (by omega)).mono ?_)
         · first | exact HO5.out | exact (HO5.out.below (KB.out _ (by assumption))).more (KB.out _ (by assumption)).size
         have hz6 := (KB.out _ (by assumption)).size
         rintro e w6 ⟨g6, c6, rfl, ho6, hb6⟩)
      | (go_at_call 80
         (with_reducible refine (two_on (some ⟨g6, 0, none⟩) 3 c6 _ [3, at_ / 256, at_ % 256] n _ 5 [3, at_ / 256, at_ % 256, n / 256, n % 256] rfl rfl rfl ?_ n0 n1 (by omega)).mono ?_)
         · first | exact own_row ho6 | exact own_row (ho6.alloc _)
         have hz7 := (KB.out _ (by assumption)).size
         rintro e w7 ⟨g7, c7, rfl, ho7, hb7⟩))
  all_goals
    go_wp2
    go_ret2
    exact ⟨_, _, rfl, (own_row ho7).ints, HB5.out.trans ((KB.out _ (by assumption)).mono HB5.out.size)⟩

set_option maxRecDepth 100000 in
set_option maxHeartbeats 1000000 in
theorem rbytes_4 (at_ n v an orr : Int) (bl wl : Nat) (ra rn co ob : Int) (BA WA : Option Addr) (bc wc : Nat) (w : World) (hrt : rightP 4 at_ n v an orr bl wl ra rn co ob) :
    Calls Try.prog 37 #[.agg #[.int .i64 4, .int .i64 at_, .int .i64 n, .int .u16 v, .int .u16 an, .int .u16 orr, .slice BA bl bc, .slice WA wl wc, .int .i64 ra, .int .i64 rn, .int .i64 co, .int .i64 ob]] w fun e w' => ∃ C cap, e = .returned (.tuple #[.slice C 5 cap, .int .i64 0]) ∧ Row .u8 w' w'.heap.size C 5 [4, at_ / 256, at_ % 256, n / 256, n % 256] ∧ Below w.heap.size w w' := by
  have hrt0 := hrt
  obtain ⟨_, hpl, ⟨a0, a1⟩, ⟨r0, r1⟩, hfit⟩ := hrt0
  unfold plainP at hpl
  unfold fitsP at hfit
  have hm : kMostR 4 = 125 := rfl
  have n0 : 0 ≤ n := by omega
  have n1 : n ≤ 65535 := by omega
  clear hm
  clear hfit hpl
  have HRt := Lib.hid hrt
  clear hrt
  go_enter Try.func37, Try.ntmps37
  go_wp2_with (
       go_at_call 63
       refine (right_yes 4 at_ n v an orr bl wl ra rn co ob BA WA bc wc _ HRt.out).mono ?_
       rintro e w4 ⟨rfl, hb4⟩
       have HB4 : Hid (Below w.heap.size w w4) := ((Below.refl _ _).alloc (Nat.le_refl _) _).trans (hb4.mono (by simp))
       have hk4 : Below (w.heap.size + 1) (w.alloc (.cells #[.int .i64 4, .int .i64 at_, .int .i64 n, .int .u16 v, .int .u16 an, .int .u16 orr, .slice BA bl bc, .slice WA wl wc, .int .i64 ra, .int .i64 rn, .int .i64 co, .int .i64 ob] 51)) w4 := by
         rwa [show (w.alloc (.cells #[.int .i64 4, .int .i64 at_, .int .i64 n, .int .u16 v, .int .u16 an, .int .u16 orr, .slice BA bl bc, .slice WA wl wc, .int .i64 ra, .int .i64 rn, .int .i64 co, .int .i64 ob] 51)).heap.size = w.heap.size + 1 by simp] at hb4
       have hz4 : w.heap.size + 1 ≤ w4.heap.size := by have := hk4.size; simp at this; omega
       have HK4 := Lib.hid hk4
       obtain ⟨hc0, hc1, hc2, hc3, hc4, hc5, hc6, hc7, hc8, hc9, hc10, hc11⟩ := box12 _ _ _ _ _ _ _ _ _ _ _ _ _ w w4 hk4
       have hd0 : (w4.alloc (.cells #[.int .u8 4] 5)).cell? ⟨w.heap.size, 0, none⟩ = some (.int .i64 4) := (World.cell?_alloc_lt w4 _ ⟨w.heap.size, 0, none⟩ hz4).trans hc0
       clear hb4 hk4 hc1 hc2 hc3 hc4 hc5 hc6 hc7 hc8 hc9 hc10 hc11)
  obtain ⟨w5, hw5⟩ : ∃ w5, w4.alloc (.cells #[.int .u8 4] 5) = w5 := ⟨_, rfl⟩
  have hb5 : Below w4.heap.size w4 w5 := by rw [← hw5]; exact (Below.refl _ _).alloc (Nat.le_refl _) _
  have HB5 : Hid (Below w.heap.size w w5) := HB4.out.trans (hb5.mono HB4.out.size)
  have HK5 := Lib.hid (HK4.out.trans (hb5.mono hz4))
  have HZ5 : Hid (w.heap.size + 1 ≤ w5.heap.size) := Nat.le_trans hz4 hb5.size
  have HO5 : Hid (RowV w5 w5.heap.size (some ⟨w4.heap.size, 0, none⟩) 1 [.int .u8 4]) := by rw [← hw5]; exact built_row w4 _ [.int .u8 4] _ (Below.refl _ _)
  have KS : Hid (∀ W, Below w5.heap.size w5 W → W.cell? ⟨w.heap.size, 1, none⟩ = some (.int .i64 at_) ∧ W.cell? ⟨w.heap.size, 2, none⟩ = some (.int .i64 n) ∧ Below w5.heap.size w5 W) := by
    intro W hb
    obtain ⟨_, hc1, hc2, hc3, hc4, hc5, hc6, hc7, hc8, hc9, hc10, hc11⟩ := box12 _ _ _ _ _ _ _ _ _ _ _ _ _ w W (HK5.out.trans (hb.mono HZ5.out))
    exact ⟨hc1, hc2, hb⟩
  have KB : Hid (∀ W, (W.cell? ⟨w.heap.size, 1, none⟩ = some (.int .i64 at_) ∧ W.cell? ⟨w.heap.size, 2, none⟩ = some (.int .i64 n) ∧ Below w5.heap.size w5 W) → Below w5.heap.size w5 W) := fun W hs => hs.2.2
  have KT : Hid (∀ W W', (W.cell? ⟨w.heap.size, 1, none⟩ = some (.int .i64 at_) ∧ W.cell? ⟨w.heap.size, 2, none⟩ = some (.int .i64 n) ∧ Below w5.heap.size w5 W) → Below W.heap.size W W' → W'.cell? ⟨w.heap.size, 1, none⟩ = some (.int .i64 at_) ∧ W'.cell? ⟨w.heap.size, 2, none⟩ = some (.int .i64 n) ∧ Below w5.heap.size w5 W') := fun W W' hs hb => KS.out _ ((KB.out _ hs).trans (hb.mono (KB.out _ hs).size))
  rw [hw5]
  clear hw5 hb5
  go_region_held3 (fun W => W.cell? ⟨w.heap.size, 1, none⟩ = some (.int .i64 at_) ∧ W.cell? ⟨w.heap.size, 2, none⟩ = some (.int .i64 n) ∧ Below w5.heap.size w5 W)
    (first
      | exact KS.out _ (Below.refl _ _).drew
      | exact KT.out _ _ (by assumption) hb7
      | exact KT.out _ _ (by assumption) hb6
      | exact KT.out _ _ (by assumption) ((Below.refl _ _).alloc (Nat.le_refl _) _))
    (first
      | (go_at_call 80
         (with_reducible refine (two_on (some ⟨w4.heap.size, 0, none⟩) 1 1 _ [4] at_ _ 3 [4, at_ / 256, at_ % 256] rfl rfl rfl ?_ a0 a1 (by omega)).mono ?_)
         · first | exact HO5.out | exact (HO5.out.below (KB.out _ (by assumption))).more (KB.out _ (by assumption)).size
         have hz6 := (KB.out _ (by assumption)).size
         rintro e w6 ⟨g6, c6, rfl, ho6, hb6⟩)
      | (go_at_call 80
         (with_reducible refine (two_on (some ⟨g6, 0, none⟩) 3 c6 _ [4, at_ / 256, at_ % 256] n _ 5 [4, at_ / 256, at_ % 256, n / 256, n % 256] rfl rfl rfl ?_ n0 n1 (by omega)).mono ?_)
         · first | exact own_row ho6 | exact own_row (ho6.alloc _)
         have hz7 := (KB.out _ (by assumption)).size
         rintro e w7 ⟨g7, c7, rfl, ho7, hb7⟩))
  all_goals
    go_wp2
    go_ret2
    exact ⟨_, _, rfl, (own_row ho7).ints, HB5.out.trans ((KB.out _ (by assumption)).mono HB5.out.size)⟩

set_option maxRecDepth 100000 in
set_option maxHeartbeats 1000000 in
theorem rbytes_6 (at_ n v an orr : Int) (bl wl : Nat) (ra rn co ob : Int) (BA WA : Option Addr) (bc wc : Nat) (w : World) (hrt : rightP 6 at_ n v an orr bl wl ra rn co ob) (v0 : 0 ≤ v) (v1 : v ≤ 65535) :
    Calls Try.prog 37 #[.agg #[.int .i64 6, .int .i64 at_, .int .i64 n, .int .u16 v, .int .u16 an, .int .u16 orr, .slice BA bl bc, .slice WA wl wc, .int .i64 ra, .int .i64 rn, .int .i64 co, .int .i64 ob]] w fun e w' => ∃ C cap, e = .returned (.tuple #[.slice C 5 cap, .int .i64 0]) ∧ Row .u8 w' w'.heap.size C 5 [6, at_ / 256, at_ % 256, v / 256, v % 256] ∧ Below w.heap.size w w' := by
  have hrt0 := hrt
  obtain ⟨_, hpl, ⟨a0, a1⟩, ⟨r0, r1⟩, hfit⟩ := hrt0
  unfold plainP at hpl
  unfold fitsP at hfit
  have w1 : IntKind.i64.wrap v = v := IntWalk.i64_in _ (by omega)
  clear hfit hpl
  have HRt := Lib.hid hrt
  clear hrt
  go_enter Try.func37, Try.ntmps37
  go_wp2_with (
       go_at_call 63
       refine (right_yes 6 at_ n v an orr bl wl ra rn co ob BA WA bc wc _ HRt.out).mono ?_
       rintro e w4 ⟨rfl, hb4⟩
       have HB4 : Hid (Below w.heap.size w w4) := ((Below.refl _ _).alloc (Nat.le_refl _) _).trans (hb4.mono (by simp))
       have hk4 : Below (w.heap.size + 1) (w.alloc (.cells #[.int .i64 6, .int .i64 at_, .int .i64 n, .int .u16 v, .int .u16 an, .int .u16 orr, .slice BA bl bc, .slice WA wl wc, .int .i64 ra, .int .i64 rn, .int .i64 co, .int .i64 ob] 51)) w4 := by
         rwa [show (w.alloc (.cells #[.int .i64 6, .int .i64 at_, .int .i64 n, .int .u16 v, .int .u16 an, .int .u16 orr, .slice BA bl bc, .slice WA wl wc, .int .i64 ra, .int .i64 rn, .int .i64 co, .int .i64 ob] 51)).heap.size = w.heap.size + 1 by simp] at hb4
       have hz4 : w.heap.size + 1 ≤ w4.heap.size := by have := hk4.size; simp at this; omega
       have HK4 := Lib.hid hk4
       obtain ⟨hc0, hc1, hc2, hc3, hc4, hc5, hc6, hc7, hc8, hc9, hc10, hc11⟩ := box12 _ _ _ _ _ _ _ _ _ _ _ _ _ w w4 hk4
       have hd0 : (w4.alloc (.cells #[.int .u8 6] 5)).cell? ⟨w.heap.size, 0, none⟩ = some (.int .i64 6) := (World.cell?_alloc_lt w4 _ ⟨w.heap.size, 0, none⟩ hz4).trans hc0
       clear hb4 hk4 hc1 hc2 hc3 hc4 hc5 hc6 hc7 hc8 hc9 hc10 hc11)
  obtain ⟨w5, hw5⟩ : ∃ w5, w4.alloc (.cells #[.int .u8 6] 5) = w5 := ⟨_, rfl⟩
  have hb5 : Below w4.heap.size w4 w5 := by rw [← hw5]; exact (Below.refl _ _).alloc (Nat.le_refl _) _
  have HB5 : Hid (Below w.heap.size w w5) := HB4.out.trans (hb5.mono HB4.out.size)
  have HK5 := Lib.hid (HK4.out.trans (hb5.mono hz4))
  have HZ5 : Hid (w.heap.size + 1 ≤ w5.heap.size) := Nat.le_trans hz4 hb5.size
  have HO5 : Hid (RowV w5 w5.heap.size (some ⟨w4.heap.size, 0, none⟩) 1 [.int .u8 6]) := by rw [← hw5]; exact built_row w4 _ [.int .u8 6] _ (Below.refl _ _)
  have KS : Hid (∀ W, Below w5.heap.size w5 W → W.cell? ⟨w.heap.size, 1, none⟩ = some (.int .i64 at_) ∧ W.cell? ⟨w.heap.size, 3, none⟩ = some (.int .u16 v) ∧ Below w5.heap.size w5 W) := by
    intro W hb
    obtain ⟨_, hc1, hc2, hc3, hc4, hc5, hc6, hc7, hc8, hc9, hc10, hc11⟩ := box12 _ _ _ _ _ _ _ _ _ _ _ _ _ w W (HK5.out.trans (hb.mono HZ5.out))
    exact ⟨hc1, hc3, hb⟩
  have KB : Hid (∀ W, (W.cell? ⟨w.heap.size, 1, none⟩ = some (.int .i64 at_) ∧ W.cell? ⟨w.heap.size, 3, none⟩ = some (.int .u16 v) ∧ Below w5.heap.size w5 W) → Below w5.heap.size w5 W) := fun W hs => hs.2.2
  have KT : Hid (∀ W W', (W.cell? ⟨w.heap.size, 1, none⟩ = some (.int .i64 at_) ∧ W.cell? ⟨w.heap.size, 3, none⟩ = some (.int .u16 v) ∧ Below w5.heap.size w5 W) → Below W.heap.size W W' → W'.cell? ⟨w.heap.size, 1, none⟩ = some (.int .i64 at_) ∧ W'.cell? ⟨w.heap.size, 3, none⟩ = some (.int .u16 v) ∧ Below w5.heap.size w5 W') := fun W W' hs hb => KS.out _ ((KB.out _ hs).trans (hb.mono (KB.out _ hs).size))
  rw [hw5]
  clear hw5 hb5
  go_region_held3 (fun W => W.cell? ⟨w.heap.size, 1, none⟩ = some (.int .i64 at_) ∧ W.cell? ⟨w.heap.size, 3, none⟩ = some (.int .u16 v) ∧ Below w5.heap.size w5 W)
    (first
      | exact KS.out _ (Below.refl _ _).drew
      | exact KT.out _ _ (by assumption) hb7
      | exact KT.out _ _ (by assumption) hb6
      | exact KT.out _ _ (by assumption) ((Below.refl _ _).alloc (Nat.le_refl _) _))
    (first
      | (go_at_call 80
         (with_reducible refine (two_on (some ⟨w4.heap.size, 0, none⟩) 1 1 _ [6] at_ _ 3 [6, at_ / 256, at_ % 256] rfl rfl rfl ?_ a0 a1 (by omega)).mono ?_)
         · first | exact HO5.out | exact (HO5.out.below (KB.out _ (by assumption))).more (KB.out _ (by assumption)).size
         have hz6 := (KB.out _ (by assumption)).size
         rintro e w6 ⟨g6, c6, rfl, ho6, hb6⟩)
      | (go_at_call 80
         (with_reducible refine (two_on (some ⟨g6, 0, none⟩) 3 c6 _ [6, at_ / 256, at_ % 256] v _ 5 [6, at_ / 256, at_ % 256, v / 256, v % 256] rfl rfl rfl ?_ v0 v1 (by omega)).mono ?_)
         · first | exact own_row ho6 | exact own_row (ho6.alloc _)
         have hz7 := (KB.out _ (by assumption)).size
         rintro e w7 ⟨g7, c7, rfl, ho7, hb7⟩))
  all_goals
    go_wp2
    go_ret2
    exact ⟨_, _, rfl, (own_row ho7).ints, HB5.out.trans ((KB.out _ (by assumption)).mono HB5.out.size)⟩

set_option maxRecDepth 100000 in
set_option maxHeartbeats 1000000 in
theorem rbytes_5 (at_ n v an orr : Int) (bl wl : Nat) (ra rn co ob : Int) (BA WA : Option Addr) (bc wc : Nat) (w : World) (hrt : rightP 5 at_ n v an orr bl wl ra rn co ob) (v0 : 0 ≤ v) (v1 : v ≤ 65535) :
    Calls Try.prog 37 #[.agg #[.int .i64 5, .int .i64 at_, .int .i64 n, .int .u16 v, .int .u16 an, .int .u16 orr, .slice BA bl bc, .slice WA wl wc, .int .i64 ra, .int .i64 rn, .int .i64 co, .int .i64 ob]] w fun e w' => ∃ C cap, e = .returned (.tuple #[.slice C 5 cap, .int .i64 0]) ∧ Row .u8 w' w'.heap.size C 5 [5, at_ / 256, at_ % 256, (v * 65280) / 256, (v * 65280) % 256] ∧ Below w.heap.size w w' := by
  have hrt0 := hrt
  obtain ⟨_, hpl, ⟨a0, a1⟩, ⟨r0, r1⟩, hfit⟩ := hrt0
  unfold plainP at hpl
  unfold fitsP at hfit
  have w1 : IntKind.i64.wrap v = v := IntWalk.i64_in _ (by omega)
  have w2 : IntKind.i64.wrap (v * 65280) = v * 65280 := IntWalk.i64_in _ (by omega)
  have m0 : 0 ≤ v * 65280 := by omega
  have m1 : v * 65280 ≤ 65535 := by omega
  clear hfit hpl
  have HRt := Lib.hid hrt
  clear hrt
  go_enter Try.func37, Try.ntmps37
  go_wp2_with (
       go_at_call 63
       refine (right_yes 5 at_ n v an orr bl wl ra rn co ob BA WA bc wc _ HRt.out).mono ?_
       rintro e w4 ⟨rfl, hb4⟩
       have HB4 : Hid (Below w.heap.size w w4) := ((Below.refl _ _).alloc (Nat.le_refl _) _).trans (hb4.mono (by simp))
       have hk4 : Below (w.heap.size + 1) (w.alloc (.cells #[.int .i64 5, .int .i64 at_, .int .i64 n, .int .u16 v, .int .u16 an, .int .u16 orr, .slice BA bl bc, .slice WA wl wc, .int .i64 ra, .int .i64 rn, .int .i64 co, .int .i64 ob] 51)) w4 := by
         rwa [show (w.alloc (.cells #[.int .i64 5, .int .i64 at_, .int .i64 n, .int .u16 v, .int .u16 an, .int .u16 orr, .slice BA bl bc, .slice WA wl wc, .int .i64 ra, .int .i64 rn, .int .i64 co, .int .i64 ob] 51)).heap.size = w.heap.size + 1 by simp] at hb4
       have hz4 : w.heap.size + 1 ≤ w4.heap.size := by have := hk4.size; simp at this; omega
       have HK4 := Lib.hid hk4
       obtain ⟨hc0, hc1, hc2, hc3, hc4, hc5, hc6, hc7, hc8, hc9, hc10, hc11⟩ := box12 _ _ _ _ _ _ _ _ _ _ _ _ _ w w4 hk4
       have hd0 : (w4.alloc (.cells #[.int .u8 5] 5)).cell? ⟨w.heap.size, 0, none⟩ = some (.int .i64 5) := (World.cell?_alloc_lt w4 _ ⟨w.heap.size, 0, none⟩ hz4).trans hc0
       clear hb4 hk4 hc1 hc2 hc3 hc4 hc5 hc6 hc7 hc8 hc9 hc10 hc11)
  obtain ⟨w5, hw5⟩ : ∃ w5, w4.alloc (.cells #[.int .u8 5] 5) = w5 := ⟨_, rfl⟩
  have hb5 : Below w4.heap.size w4 w5 := by rw [← hw5]; exact (Below.refl _ _).alloc (Nat.le_refl _) _
  have HB5 : Hid (Below w.heap.size w w5) := HB4.out.trans (hb5.mono HB4.out.size)
  have HK5 := Lib.hid (HK4.out.trans (hb5.mono hz4))
  have HZ5 : Hid (w.heap.size + 1 ≤ w5.heap.size) := Nat.le_trans hz4 hb5.size
  have HO5 : Hid (RowV w5 w5.heap.size (some ⟨w4.heap.size, 0, none⟩) 1 [.int .u8 5]) := by rw [← hw5]; exact built_row w4 _ [.int .u8 5] _ (Below.refl _ _)
  have KS : Hid (∀ W, Below w5.heap.size w5 W → W.cell? ⟨w.heap.size, 1, none⟩ = some (.int .i64 at_) ∧ W.cell? ⟨w.heap.size, 3, none⟩ = some (.int .u16 v) ∧ Below w5.heap.size w5 W) := by
    intro W hb
    obtain ⟨_, hc1, hc2, hc3, hc4, hc5, hc6, hc7, hc8, hc9, hc10, hc11⟩ := box12 _ _ _ _ _ _ _ _ _ _ _ _ _ w W (HK5.out.trans (hb.mono HZ5.out))
    exact ⟨hc1, hc3, hb⟩
  have KB : Hid (∀ W, (W.cell? ⟨w.heap.size, 1, none⟩ = some (.int .i64 at_) ∧ W.cell? ⟨w.heap.size, 3, none⟩ = some (.int .u16 v) ∧ Below w5.heap.size w5 W) → Below w5.heap.size w5 W) := fun W hs => hs.2.2
  have KT : Hid (∀ W W', (W.cell? ⟨w.heap.size, 1, none⟩ = some (.int .i64 at_) ∧ W.cell? ⟨w.heap.size, 3, none⟩ = some (.int .u16 v) ∧ Below w5.heap.size w5 W) → Below W.heap.size W W' → W'.cell? ⟨w.heap.size, 1, none⟩ = some (.int .i64 at_) ∧ W'.cell? ⟨w.heap.size, 3, none⟩ = some (.int .u16 v) ∧ Below w5.heap.size w5 W') := fun W W' hs hb => KS.out _ ((KB.out _ hs).trans (hb.mono (KB.out _ hs).size))
  rw [hw5]
  clear hw5 hb5
  go_region_held3 (fun W => W.cell? ⟨w.heap.size, 1, none⟩ = some (.int .i64 at_) ∧ W.cell? ⟨w.heap.size, 3, none⟩ = some (.int .u16 v) ∧ Below w5.heap.size w5 W)
    (first
      | exact KS.out _ (Below.refl _ _).drew
      | exact KT.out _ _ (by assumption) hb7
      | exact KT.out _ _ (by assumption) hb6
      | exact KT.out _ _ (by assumption) ((Below.refl _ _).alloc (Nat.le_refl _) _))
    (first
      | (go_at_call 80
         (with_reducible refine (two_on (some ⟨w4.heap.size, 0, none⟩) 1 1 _ [5] at_ _ 3 [5, at_ / 256, at_ % 256] rfl rfl rfl ?_ a0 a1 (by omega)).mono ?_)
         · first | exact HO5.out | exact (HO5.out.below (KB.out _ (by assumption))).more (KB.out _ (by assumption)).size
         have hz6 := (KB.out _ (by assumption)).size
         rintro e w6 ⟨g6, c6, rfl, ho6, hb6⟩)
      | (go_at_call 80
         (with_reducible refine (two_on (some ⟨g6, 0, none⟩) 3 c6 _ [5, at_ / 256, at_ % 256] (v * 65280) _ 5 [5, at_ / 256, at_ % 256, (v * 65280) / 256, (v * 65280) % 256] rfl rfl rfl ?_ m0 m1 (by omega)).mono ?_)
         · first | exact own_row ho6 | exact own_row (ho6.alloc _)
         have hz7 := (KB.out _ (by assumption)).size
         rintro e w7 ⟨g7, c7, rfl, ho7, hb7⟩))
  all_goals
    go_wp2
    go_ret2
    exact ⟨_, _, rfl, (own_row ho7).ints, HB5.out.trans ((KB.out _ (by assumption)).mono HB5.out.size)⟩

set_option maxRecDepth 100000 in
set_option maxHeartbeats 1000000 in
theorem rbytes_22 (at_ n v an orr : Int) (bl wl : Nat) (ra rn co ob : Int) (BA WA : Option Addr) (bc wc : Nat) (w : World) (hrt : rightP 22 at_ n v an orr bl wl ra rn co ob) (x0 : 0 ≤ an) (x1 : an ≤ 65535) (y0 : 0 ≤ orr) (y1 : orr ≤ 65535) :
    Calls Try.prog 37 #[.agg #[.int .i64 22, .int .i64 at_, .int .i64 n, .int .u16 v, .int .u16 an, .int .u16 orr, .slice BA bl bc, .slice WA wl wc, .int .i64 ra, .int .i64 rn, .int .i64 co, .int .i64 ob]] w fun e w' => ∃ C cap, e = .returned (.tuple #[.slice C 7 cap, .int .i64 0]) ∧ Row .u8 w' w'.heap.size C 7 [22, at_ / 256, at_ % 256, an / 256, an % 256, orr / 256, orr % 256] ∧ Below w.heap.size w w' := by
  have hrt0 := hrt
  obtain ⟨_, hpl, ⟨a0, a1⟩, ⟨r0, r1⟩, hfit⟩ := hrt0
  unfold plainP at hpl
  unfold fitsP at hfit
  have w1 : IntKind.i64.wrap an = an := IntWalk.i64_in _ (by omega)
  have w2 : IntKind.i64.wrap orr = orr := IntWalk.i64_in _ (by omega)
  clear hfit hpl
  have HRt := Lib.hid hrt
  clear hrt
  go_enter Try.func37, Try.ntmps37
  go_wp2_with (
       go_at_call 63
       refine (right_yes 22 at_ n v an orr bl wl ra rn co ob BA WA bc wc _ HRt.out).mono ?_
       rintro e w4 ⟨rfl, hb4⟩
       have HB4 : Hid (Below w.heap.size w w4) := ((Below.refl _ _).alloc (Nat.le_refl _) _).trans (hb4.mono (by simp))
       have hk4 : Below (w.heap.size + 1) (w.alloc (.cells #[.int .i64 22, .int .i64 at_, .int .i64 n, .int .u16 v, .int .u16 an, .int .u16 orr, .slice BA bl bc, .slice WA wl wc, .int .i64 ra, .int .i64 rn, .int .i64 co, .int .i64 ob] 51)) w4 := by
         rwa [show (w.alloc (.cells #[.int .i64 22, .int .i64 at_, .int .i64 n, .int .u16 v, .int .u16 an, .int .u16 orr, .slice BA bl bc, .slice WA wl wc, .int .i64 ra, .int .i64 rn, .int .i64 co, .int .i64 ob] 51)).heap.size = w.heap.size + 1 by simp] at hb4
       have hz4 : w.heap.size + 1 ≤ w4.heap.size := by have := hk4.size; simp at this; omega
       have HK4 := Lib.hid hk4
       obtain ⟨hc0, hc1, hc2, hc3, hc4, hc5, hc6, hc7, hc8, hc9, hc10, hc11⟩ := box12 _ _ _ _ _ _ _ _ _ _ _ _ _ w w4 hk4
       have hd0 : (w4.alloc (.cells #[.int .u8 22] 5)).cell? ⟨w.heap.size, 0, none⟩ = some (.int .i64 22) := (World.cell?_alloc_lt w4 _ ⟨w.heap.size, 0, none⟩ hz4).trans hc0
       clear hb4 hk4 hc1 hc2 hc3 hc4 hc5 hc6 hc7 hc8 hc9 hc10 hc11)
  obtain ⟨w5, hw5⟩ : ∃ w5, w4.alloc (.cells #[.int .u8 22] 5) = w5 := ⟨_, rfl⟩
  have hb5 : Below w4.heap.size w4 w5 := by rw [← hw5]; exact (Below.refl _ _).alloc (Nat.le_refl _) _
  have HB5 : Hid (Below w.heap.size w w5) := HB4.out.trans (hb5.mono HB4.out.size)
  have HK5 := Lib.hid (HK4.out.trans (hb5.mono hz4))
  have HZ5 : Hid (w.heap.size + 1 ≤ w5.heap.size) := Nat.le_trans hz4 hb5.size
  have HO5 : Hid (RowV w5 w5.heap.size (some ⟨w4.heap.size, 0, none⟩) 1 [.int .u8 22]) := by rw [← hw5]; exact built_row w4 _ [.int .u8 22] _ (Below.refl _ _)
  have KS : Hid (∀ W, Below w5.heap.size w5 W → W.cell? ⟨w.heap.size, 1, none⟩ = some (.int .i64 at_) ∧ W.cell? ⟨w.heap.size, 4, none⟩ = some (.int .u16 an) ∧ W.cell? ⟨w.heap.size, 5, none⟩ = some (.int .u16 orr) ∧ Below w5.heap.size w5 W) := by
    intro W hb
    obtain ⟨_, hc1, hc2, hc3, hc4, hc5, hc6, hc7, hc8, hc9, hc10, hc11⟩ := box12 _ _ _ _ _ _ _ _ _ _ _ _ _ w W (HK5.out.trans (hb.mono HZ5.out))
    exact ⟨hc1, hc4, hc5, hb⟩
  have KB : Hid (∀ W, (W.cell? ⟨w.heap.size, 1, none⟩ = some (.int .i64 at_) ∧ W.cell? ⟨w.heap.size, 4, none⟩ = some (.int .u16 an) ∧ W.cell? ⟨w.heap.size, 5, none⟩ = some (.int .u16 orr) ∧ Below w5.heap.size w5 W) → Below w5.heap.size w5 W) := fun W hs => hs.2.2.2
  have KT : Hid (∀ W W', (W.cell? ⟨w.heap.size, 1, none⟩ = some (.int .i64 at_) ∧ W.cell? ⟨w.heap.size, 4, none⟩ = some (.int .u16 an) ∧ W.cell? ⟨w.heap.size, 5, none⟩ = some (.int .u16 orr) ∧ Below w5.heap.size w5 W) → Below W.heap.size W W' → W'.cell? ⟨w.heap.size, 1, none⟩ = some (.int .i64 at_) ∧ W'.cell? ⟨w.heap.size, 4, none⟩ = some (.int .u16 an) ∧ W'.cell? ⟨w.heap.size, 5, none⟩ = some (.int .u16 orr) ∧ Below w5.heap.size w5 W') := fun W W' hs hb => KS.out _ ((KB.out _ hs).trans (hb.mono (KB.out _ hs).size))
  rw [hw5]
  clear hw5 hb5
  go_region_held3 (fun W => W.cell? ⟨w.heap.size, 1, none⟩ = some (.int .i64 at_) ∧ W.cell? ⟨w.heap.size, 4, none⟩ = some (.int .u16 an) ∧ W.cell? ⟨w.heap.size, 5, none⟩ = some (.int .u16 orr) ∧ Below w5.heap.size w5 W)
    (first
      | exact KS.out _ (Below.refl _ _).drew
      | exact KT.out _ _ (by assumption) hb8
      | exact KT.out _ _ (by assumption) hb7
      | exact KT.out _ _ (by assumption) hb6
      | exact KT.out _ _ (by assumption) ((Below.refl _ _).alloc (Nat.le_refl _) _))
    (first
      | (go_at_call 80
         (with_reducible refine (two_on (some ⟨w4.heap.size, 0, none⟩) 1 1 _ [22] at_ _ 3 [22, at_ / 256, at_ % 256] rfl rfl rfl ?_ a0 a1 (by omega)).mono ?_)
         · first | exact HO5.out | exact (HO5.out.below (KB.out _ (by assumption))).more (KB.out _ (by assumption)).size
         have hz6 := (KB.out _ (by assumption)).size
         rintro e w6 ⟨g6, c6, rfl, ho6, hb6⟩)
      | (go_at_call 80
         (with_reducible refine (two_on (some ⟨g6, 0, none⟩) 3 c6 _ [22, at_ / 256, at_ % 256] an _ 5 [22, at_ / 256, at_ % 256, an / 256, an % 256] rfl rfl rfl ?_ x0 x1 (by omega)).mono ?_)
         · first | exact own_row ho6 | exact own_row (ho6.alloc _)
         have hz7 := (KB.out _ (by assumption)).size
         rintro e w7 ⟨g7, c7, rfl, ho7, hb7⟩)
      | (go_at_call 80
         (with_reducible refine (two_on (some ⟨g7, 0, none⟩) 5 c7 _ [22, at_ / 256, at_ % 256, an / 256, an % 256] orr _ 7 [22, at_ / 256, at_ % 256, an / 256, an % 256, orr / 256, orr % 256] rfl rfl rfl ?_ y0 y1 (by omega)).mono ?_)
         · first | exact own_row ho7 | exact own_row (ho7.alloc _)
         have hz8 := (KB.out _ (by assumption)).size
         rintro e w8 ⟨g8, c8, rfl, ho8, hb8⟩))
  all_goals
    go_wp2
    go_ret2
    exact ⟨_, _, rfl, (own_row ho8).ints, HB5.out.trans ((KB.out _ (by assumption)).mono HB5.out.size)⟩

set_option maxRecDepth 100000 in
set_option maxHeartbeats 1000000 in
theorem rbytes_15 (at_ v an orr : Int) (bl wl : Nat) (ra rn co ob : Int) (BA WA : Option Addr) (bc wc : Nat) (w : World) (hrt : rightP 15 at_ bl v an orr bl wl ra rn co ob) (bs : List Bool) (hbs : BRow w w.heap.size BA bl bs) :
    Calls Try.prog 37 #[.agg #[.int .i64 15, .int .i64 at_, .int .i64 (bl : Int), .int .u16 v, .int .u16 an, .int .u16 orr, .slice BA bl bc, .slice WA wl wc, .int .i64 ra, .int .i64 rn, .int .i64 co, .int .i64 ob]] w fun e w' => ∃ C cap, e = .returned (.tuple #[.slice C (6 + nb bl) cap, .int .i64 0]) ∧ Row .u8 w' w'.heap.size C (6 + nb bl) ([15, at_ / 256, at_ % 256, (bl : Int) / 256, (bl : Int) % 256, ((nb bl : Nat) : Int)] ++ pk bs bl) ∧ Below w.heap.size w w' := by
  have hrt0 := hrt
  obtain ⟨_, hpl, ⟨a0, a1⟩, ⟨r0, r1⟩, hfit⟩ := hrt0
  unfold plainP at hpl
  unfold fitsP at hfit
  have hm : kMostW 15 = 1968 := rfl
  have n2 : bl ≤ 1968 := by omega
  have n0 : 0 ≤ (bl : Int) := by omega
  have n1 : (bl : Int) ≤ 65535 := by omega
  have hnb : nb bl ≤ 246 := by unfold nb; omega
  have hwb : IntKind.u8.wrap ((nb bl : Nat) : Int) = ((nb bl : Nat) : Int) := IntWalk.u8_in _ (by omega)
  have HBS := Lib.hid hbs
  clear hfit hpl hm hbs
  have HRt := Lib.hid hrt
  clear hrt
  go_enter Try.func37, Try.ntmps37
  go_wp2_with (
       go_at_call 63
       refine (right_yes 15 at_ bl v an orr bl wl ra rn co ob BA WA bc wc _ HRt.out).mono ?_
       rintro e w4 ⟨rfl, hb4⟩
       have HB4 : Hid (Below w.heap.size w w4) := ((Below.refl _ _).alloc (Nat.le_refl _) _).trans (hb4.mono (by simp))
       have hk4 : Below (w.heap.size + 1) (w.alloc (.cells #[.int .i64 15, .int .i64 at_, .int .i64 (bl : Int), .int .u16 v, .int .u16 an, .int .u16 orr, .slice BA bl bc, .slice WA wl wc, .int .i64 ra, .int .i64 rn, .int .i64 co, .int .i64 ob] 51)) w4 := by
         rwa [show (w.alloc (.cells #[.int .i64 15, .int .i64 at_, .int .i64 (bl : Int), .int .u16 v, .int .u16 an, .int .u16 orr, .slice BA bl bc, .slice WA wl wc, .int .i64 ra, .int .i64 rn, .int .i64 co, .int .i64 ob] 51)).heap.size = w.heap.size + 1 by simp] at hb4
       have hz4 : w.heap.size + 1 ≤ w4.heap.size := by have := hk4.size; simp at this; omega
       have HK4 := Lib.hid hk4
       obtain ⟨hc0, hc1, hc2, hc3, hc4, hc5, hc6, hc7, hc8, hc9, hc10, hc11⟩ := box12 _ _ _ _ _ _ _ _ _ _ _ _ _ w w4 hk4
       have hd0 : (w4.alloc (.cells #[.int .u8 15] 5)).cell? ⟨w.heap.size, 0, none⟩ = some (.int .i64 15) := (World.cell?_alloc_lt w4 _ ⟨w.heap.size, 0, none⟩ hz4).trans hc0
       clear hb4 hk4 hc1 hc2 hc3 hc4 hc5 hc6 hc7 hc8 hc9 hc10 hc11)
  obtain ⟨w5, hw5⟩ : ∃ w5, w4.alloc (.cells #[.int .u8 15] 5) = w5 := ⟨_, rfl⟩
  have hb5 : Below w4.heap.size w4 w5 := by rw [← hw5]; exact (Below.refl _ _).alloc (Nat.le_refl _) _
  have HB5 : Hid (Below w.heap.size w w5) := HB4.out.trans (hb5.mono HB4.out.size)
  have HK5 := Lib.hid (HK4.out.trans (hb5.mono hz4))
  have HZ5 : Hid (w.heap.size + 1 ≤ w5.heap.size) := Nat.le_trans hz4 hb5.size
  have HO5 : Hid (RowV w5 w5.heap.size (some ⟨w4.heap.size, 0, none⟩) 1 [.int .u8 15]) := by rw [← hw5]; exact built_row w4 _ [.int .u8 15] _ (Below.refl _ _)
  have KS : Hid (∀ W, Below w5.heap.size w5 W → W.cell? ⟨w.heap.size, 1, none⟩ = some (.int .i64 at_) ∧ W.cell? ⟨w.heap.size, 2, none⟩ = some (.int .i64 (bl : Int)) ∧ Below w5.heap.size w5 W) := by
    intro W hb
    obtain ⟨_, hc1, hc2, hc3, hc4, hc5, hc6, hc7, hc8, hc9, hc10, hc11⟩ := box12 _ _ _ _ _ _ _ _ _ _ _ _ _ w W (HK5.out.trans (hb.mono HZ5.out))
    exact ⟨hc1, hc2, hb⟩
  have KB : Hid (∀ W, (W.cell? ⟨w.heap.size, 1, none⟩ = some (.int .i64 at_) ∧ W.cell? ⟨w.heap.size, 2, none⟩ = some (.int .i64 (bl : Int)) ∧ Below w5.heap.size w5 W) → Below w5.heap.size w5 W) := fun W hs => hs.2.2
  have KT : Hid (∀ W W', (W.cell? ⟨w.heap.size, 1, none⟩ = some (.int .i64 at_) ∧ W.cell? ⟨w.heap.size, 2, none⟩ = some (.int .i64 (bl : Int)) ∧ Below w5.heap.size w5 W) → Below W.heap.size W W' → W'.cell? ⟨w.heap.size, 1, none⟩ = some (.int .i64 at_) ∧ W'.cell? ⟨w.heap.size, 2, none⟩ = some (.int .i64 (bl : Int)) ∧ Below w5.heap.size w5 W') := fun W W' hs hb => KS.out _ ((KB.out _ hs).trans (hb.mono (KB.out _ hs).size))
  rw [hw5]
  clear hw5 hb5
  have HC6 : Hid (∀ W, Below w5.heap.size w5 W → W.cell? ⟨w.heap.size, 6, none⟩ = some (.slice BA bl bc)) := by
    intro W hb
    obtain ⟨_, hc1, hc2, hc3, hc4, hc5, hc6, _⟩ := box12 _ _ _ _ _ _ _ _ _ _ _ _ _ w W (HK5.out.trans (hb.mono HZ5.out))
    exact hc6
  go_region_held3 (fun W => W.cell? ⟨w.heap.size, 1, none⟩ = some (.int .i64 at_) ∧ W.cell? ⟨w.heap.size, 2, none⟩ = some (.int .i64 (bl : Int)) ∧ Below w5.heap.size w5 W)
    (first
      | exact KS.out _ (Below.refl _ _).drew
      | exact KT.out _ _ (by assumption) hb7
      | exact KT.out _ _ (by assumption) hb6
      | exact KT.out _ _ (by assumption) ((Below.refl _ _).alloc (Nat.le_refl _) _)
      | assumption
      | exact KS.out _ (below_append (KB.out _ (by assumption)) (own_mono ho7 hz7) hg8 (KB.out _ (by assumption)).size)
      | exact KS.out _ (below_append (KB.out _ (by assumption)) ((own_mono ho7 hz7).alloc _) hg8 (KB.out _ (by assumption)).size)
      | exact KS.out _ (below_append (KB.out _ (by assumption)) ((own_mono ho7 hz7).alloc _).drew hg8 (KB.out _ (by assumption)).size))
    (first
      | (refine step_append_to (.tmp 55) (.tmp 60) 22 w5.heap.size 5 (.int .u8 0) 1 Try.underlying22 info5 rfl (.slice (some ⟨g7, 0, none⟩) 5 c7) 5 ([15, at_ / 256, at_ % 256, (bl : Int) / 256, (bl : Int) % 256].map (Value.int .u8)) 1 [.int .u8 ((nb bl : Nat) : Int)] 6 ([15, at_ / 256, at_ % 256, (bl : Int) / 256, (bl : Int) % 256, ((nb bl : Nat) : Int)].map (Value.int .u8)) rfl rfl (by simp [Value.oneCell']) (by omega) (by omega) ?_ ?_ ?_ ?_ ?_
         · exact ⟨rfl, rfl, rfl⟩
         · first | exact own_mono ho7 hz7 | exact (own_mono ho7 hz7).alloc _ | exact ((own_mono ho7 hz7).alloc _).drew
         · first
             | exact ⟨_, _, rfl, built_row _ _ [.int .u8 ((nb bl : Nat) : Int)] _ (Below.refl _ _)⟩
             | exact ⟨_, _, rfl, built_row _ _ [.int .u8 ((nb bl : Nat) : Int)] _ (Below.refl _ _).drew⟩
             | exact ⟨_, _, rfl, built_row _ _ [.int .u8 ((nb bl : Nat) : Int)] _ hb7⟩
             | exact ⟨_, _, rfl, built_row _ _ [.int .u8 ((nb bl : Nat) : Int)] _ (hb6.trans ((hb7).mono hb6.size))⟩
             | exact ⟨_, _, rfl, built_row _ _ [.int .u8 ((nb bl : Nat) : Int)] _ (below_from (d := 1) (hb6.trans ((hb7).mono hb6.size)))⟩
         · exact (KB.out _ (by assumption)).size
         intro A8 c8 w8 ho8 hg8)
      | (go_at_call 81; refine (refbytes_nat bl _ (by omega)).mono ?_; rintro e w' ⟨rfl, rfl⟩)
      | (go_at_call 80
         (with_reducible refine (two_on (some ⟨w4.heap.size, 0, none⟩) 1 1 _ [15] at_ _ 3 [15, at_ / 256, at_ % 256] rfl rfl rfl ?_ a0 a1 (by omega)).mono ?_)
         · first | exact HO5.out | exact (HO5.out.below (KB.out _ (by assumption))).more (KB.out _ (by assumption)).size
         have hz6 := (KB.out _ (by assumption)).size
         rintro e w6 ⟨g6, c6, rfl, ho6, hb6⟩)
      | (go_at_call 80
         (with_reducible refine (two_on (some ⟨g6, 0, none⟩) 3 c6 _ [15, at_ / 256, at_ % 256] (bl : Int) _ 5 [15, at_ / 256, at_ % 256, (bl : Int) / 256, (bl : Int) % 256] rfl rfl rfl ?_ n0 n1 (by omega)).mono ?_)
         · first | exact own_row ho6 | exact own_row (ho6.alloc _)
         have hz7 := (KB.out _ (by assumption)).size
         rintro e w7 ⟨g7, c7, rfl, ho7, hb7⟩))
  all_goals
    have hk8 := KB.out _ (by assumption)
    have hc6 := HC6.out _ hk8
    have HB8 : Hid (Below w.heap.size w w8) := HB5.out.trans (hk8.mono HB5.out.size)
    have HO8 := Lib.hid (own_mono ho8 HB5.out.size)
    have HZ8 := Lib.hid hk8.size
    clear hk8 ho8
    go_wp2_with (first
      | (go_at_call 82
         refine (refpack_any BA bl bc bs _ ((HBS.out.below HB8.out).more HB8.out.size) (by omega)).mono ?_
         rintro e w9 ⟨rfl, hw9, hb9⟩
         have HO9 := Lib.hid (own_keep HO8.out hb9)
         have HB9 := Lib.hid (HB8.out.trans (hb9.mono HB8.out.size))
         have hr9 := hw9.row
         rw [pk_length, HBS.out.1] at hr9
         have HR9 := Lib.hid hr9
         clear hw9 hb9 hr9)
      | (at_builtin
         refine wpList_append_row _ (o := ⟨some 66, _, _, _, _, _⟩) rfl (.tmp 62) (.tmp 65) 22 rfl w.heap.size 5 (.int .u8 0) 1 Try.underlying22 info5 rfl (.slice A8 6 c8) 6 _ rfl HO9.out _ (some ⟨w8.heap.size, 0, none⟩) (nb bl) (nb bl) _ rfl HR9.out.v (one_cells _ _) (by omega) (by omega) HB9.out.size ?_
         intro v10 w10 hown hg hat
         obtain ⟨B10, c10, rfl⟩ := own_slice hown
         have HB10 := Lib.hid (below_append HB9.out HO9.out hg HB9.out.size)
         have HO10 := Lib.hid hown
         clear hown hg hat))
    go_ret2
    refine ⟨_, _, rfl, ?_, HB10.out⟩
    have h := own_row HO10.out
    rw [← List.map_append] at h
    exact h.ints

set_option maxRecDepth 100000 in
set_option maxHeartbeats 1000000 in
theorem rbytes_16 (at_ v an orr : Int) (bl wl : Nat) (ra rn co ob : Int) (BA WA : Option Addr) (bc wc : Nat) (w : World) (hrt : rightP 16 at_ wl v an orr bl wl ra rn co ob) (ws : List Int) (hws : Row .u16 w w.heap.size WA wl ws) (hxw : Words ws) :
    Calls Try.prog 37 #[.agg #[.int .i64 16, .int .i64 at_, .int .i64 (wl : Int), .int .u16 v, .int .u16 an, .int .u16 orr, .slice BA bl bc, .slice WA wl wc, .int .i64 ra, .int .i64 rn, .int .i64 co, .int .i64 ob]] w fun e w' => ∃ C cap, e = .returned (.tuple #[.slice C (6 + 2 * wl) cap, .int .i64 0]) ∧ Row .u8 w' w'.heap.size C (6 + 2 * wl) ([16, at_ / 256, at_ % 256, (wl : Int) / 256, (wl : Int) % 256, 2 * (wl : Int)] ++ flat ws) ∧ Below w.heap.size w w' := by
  have hrt0 := hrt
  obtain ⟨_, hpl, ⟨a0, a1⟩, ⟨r0, r1⟩, hfit⟩ := hrt0
  unfold plainP at hpl
  unfold fitsP at hfit
  have hm : kMostW 16 = 123 := rfl
  have hm2 : kMostR 16 = 0 := rfl
  have n2 : wl ≤ 123 := by omega
  have n0 : 0 ≤ (wl : Int) := by omega
  have n1 : (wl : Int) ≤ 65535 := by omega
  have hw1 : IntKind.i64.wrap (2 * (wl : Int)) = 2 * (wl : Int) := IntWalk.i64_in _ (by omega)
  have hw2 : IntKind.u8.wrap (2 * (wl : Int)) = 2 * (wl : Int) := IntWalk.u8_in _ (by omega)
  have HWS := Lib.hid hws
  have HXW := Lib.hid hxw
  clear hfit hpl hm hm2 hws hxw
  have HRt := Lib.hid hrt
  clear hrt
  go_enter Try.func37, Try.ntmps37
  go_wp2_with (
       go_at_call 63
       refine (right_yes 16 at_ wl v an orr bl wl ra rn co ob BA WA bc wc _ HRt.out).mono ?_
       rintro e w4 ⟨rfl, hb4⟩
       have HB4 : Hid (Below w.heap.size w w4) := ((Below.refl _ _).alloc (Nat.le_refl _) _).trans (hb4.mono (by simp))
       have hk4 : Below (w.heap.size + 1) (w.alloc (.cells #[.int .i64 16, .int .i64 at_, .int .i64 (wl : Int), .int .u16 v, .int .u16 an, .int .u16 orr, .slice BA bl bc, .slice WA wl wc, .int .i64 ra, .int .i64 rn, .int .i64 co, .int .i64 ob] 51)) w4 := by
         rwa [show (w.alloc (.cells #[.int .i64 16, .int .i64 at_, .int .i64 (wl : Int), .int .u16 v, .int .u16 an, .int .u16 orr, .slice BA bl bc, .slice WA wl wc, .int .i64 ra, .int .i64 rn, .int .i64 co, .int .i64 ob] 51)).heap.size = w.heap.size + 1 by simp] at hb4
       have hz4 : w.heap.size + 1 ≤ w4.heap.size := by have := hk4.size; simp at this; omega
       have HK4 := Lib.hid hk4
       obtain ⟨hc0, hc1, hc2, hc3, hc4, hc5, hc6, hc7, hc8, hc9, hc10, hc11⟩ := box12 _ _ _ _ _ _ _ _ _ _ _ _ _ w w4 hk4
       have hd0 : (w4.alloc (.cells #[.int .u8 16] 5)).cell? ⟨w.heap.size, 0, none⟩ = some (.int .i64 16) := (World.cell?_alloc_lt w4 _ ⟨w.heap.size, 0, none⟩ hz4).trans hc0
       clear hb4 hk4 hc1 hc2 hc3 hc4 hc5 hc6 hc7 hc8 hc9 hc10 hc11)
  obtain ⟨w5, hw5⟩ : ∃ w5, w4.alloc (.cells #[.int .u8 16] 5) = w5 := ⟨_, rfl⟩
  have hb5 : Below w4.heap.size w4 w5 := by rw [← hw5]; exact (Below.refl _ _).alloc (Nat.le_refl _) _
  have HB5 : Hid (Below w.heap.size w w5) := HB4.out.trans (hb5.mono HB4.out.size)
  have HK5 := Lib.hid (HK4.out.trans (hb5.mono hz4))
  have HZ5 : Hid (w.heap.size + 1 ≤ w5.heap.size) := Nat.le_trans hz4 hb5.size
  have HO5 : Hid (RowV w5 w5.heap.size (some ⟨w4.heap.size, 0, none⟩) 1 [.int .u8 16]) := by rw [← hw5]; exact built_row w4 _ [.int .u8 16] _ (Below.refl _ _)
  have KS : Hid (∀ W, Below w5.heap.size w5 W → W.cell? ⟨w.heap.size, 1, none⟩ = some (.int .i64 at_) ∧ W.cell? ⟨w.heap.size, 2, none⟩ = some (.int .i64 (wl : Int)) ∧ W.cell? ⟨w.heap.size, 7, none⟩ = some (.slice WA wl wc) ∧ Below w5.heap.size w5 W) := by
    intro W hb
    obtain ⟨_, hc1, hc2, hc3, hc4, hc5, hc6, hc7, hc8, hc9, hc10, hc11⟩ := box12 _ _ _ _ _ _ _ _ _ _ _ _ _ w W (HK5.out.trans (hb.mono HZ5.out))
    exact ⟨hc1, hc2, hc7, hb⟩
  have KB : Hid (∀ W, (W.cell? ⟨w.heap.size, 1, none⟩ = some (.int .i64 at_) ∧ W.cell? ⟨w.heap.size, 2, none⟩ = some (.int .i64 (wl : Int)) ∧ W.cell? ⟨w.heap.size, 7, none⟩ = some (.slice WA wl wc) ∧ Below w5.heap.size w5 W) → Below w5.heap.size w5 W) := fun W hs => hs.2.2.2
  have KT : Hid (∀ W W', (W.cell? ⟨w.heap.size, 1, none⟩ = some (.int .i64 at_) ∧ W.cell? ⟨w.heap.size, 2, none⟩ = some (.int .i64 (wl : Int)) ∧ W.cell? ⟨w.heap.size, 7, none⟩ = some (.slice WA wl wc) ∧ Below w5.heap.size w5 W) → Below W.heap.size W W' → W'.cell? ⟨w.heap.size, 1, none⟩ = some (.int .i64 at_) ∧ W'.cell? ⟨w.heap.size, 2, none⟩ = some (.int .i64 (wl : Int)) ∧ W'.cell? ⟨w.heap.size, 7, none⟩ = some (.slice WA wl wc) ∧ Below w5.heap.size w5 W') := fun W W' hs hb => KS.out _ ((KB.out _ hs).trans (hb.mono (KB.out _ hs).size))
  rw [hw5]
  clear hw5 hb5
  go_region_held3 (fun W => W.cell? ⟨w.heap.size, 1, none⟩ = some (.int .i64 at_) ∧ W.cell? ⟨w.heap.size, 2, none⟩ = some (.int .i64 (wl : Int)) ∧ W.cell? ⟨w.heap.size, 7, none⟩ = some (.slice WA wl wc) ∧ Below w5.heap.size w5 W)
    (first
      | exact KS.out _ (Below.refl _ _).drew
      | exact KT.out _ _ (by assumption) hb9
      | exact KT.out _ _ (by assumption) hb7
      | exact KT.out _ _ (by assumption) hb6
      | exact KT.out _ _ (by assumption) ((Below.refl _ _).alloc (Nat.le_refl _) _)
      | assumption
      | exact KS.out _ (below_append (KB.out _ (by assumption)) (own_mono ho7 hz7) hg8 (KB.out _ (by assumption)).size)
      | exact KS.out _ (below_append (KB.out _ (by assumption)) ((own_mono ho7 hz7).alloc _) hg8 (KB.out _ (by assumption)).size)
      | exact KS.out _ (below_append (KB.out _ (by assumption)) ((own_mono ho7 hz7).alloc _).drew hg8 (KB.out _ (by assumption)).size))
    (first
      | (refine step_append_to (.tmp 75) (.tmp 80) 22 w5.heap.size 5 (.int .u8 0) 1 Try.underlying22 info5 rfl (.slice (some ⟨g7, 0, none⟩) 5 c7) 5 ([16, at_ / 256, at_ % 256, (wl : Int) / 256, (wl : Int) % 256].map (Value.int .u8)) 1 [.int .u8 (2 * (wl : Int))] 6 ([16, at_ / 256, at_ % 256, (wl : Int) / 256, (wl : Int) % 256, 2 * (wl : Int)].map (Value.int .u8)) rfl rfl (by simp [Value.oneCell']) (by omega) (by omega) ?_ ?_ ?_ ?_ ?_
         · exact ⟨rfl, rfl, rfl⟩
         · first | exact own_mono ho7 hz7 | exact (own_mono ho7 hz7).alloc _ | exact ((own_mono ho7 hz7).alloc _).drew
         · first
             | exact ⟨_, _, rfl, built_row _ _ [.int .u8 (2 * (wl : Int))] _ (Below.refl _ _)⟩
             | exact ⟨_, _, rfl, built_row _ _ [.int .u8 (2 * (wl : Int))] _ (Below.refl _ _).drew⟩
             | exact ⟨_, _, rfl, built_row _ _ [.int .u8 (2 * (wl : Int))] _ hb7⟩
             | exact ⟨_, _, rfl, built_row _ _ [.int .u8 (2 * (wl : Int))] _ (hb6.trans ((hb7).mono hb6.size))⟩
             | exact ⟨_, _, rfl, built_row _ _ [.int .u8 (2 * (wl : Int))] _ (below_from (d := 1) (hb6.trans ((hb7).mono hb6.size)))⟩
         · exact (KB.out _ (by assumption)).size
         intro A8 c8 w8 ho8 hg8)
      | (go_at_call 83
         refine (rwords A8 6 c8 [16, at_ / 256, at_ % 256, (wl : Int) / 256, (wl : Int) % 256, 2 * (wl : Int)] WA wl wc ws _ (own_row ho8).ints ?_ HXW.out (by omega) (by omega)).mono ?_
         · have hk := HB5.out.trans ((KB.out _ (by assumption)).mono HB5.out.size)
           exact (HWS.out.below hk).more hk.size
         rintro e w9 ⟨C9, c9, rfl, hr9, hb9⟩)
      | (go_at_call 80
         (with_reducible refine (two_on (some ⟨w4.heap.size, 0, none⟩) 1 1 _ [16] at_ _ 3 [16, at_ / 256, at_ % 256] rfl rfl rfl ?_ a0 a1 (by omega)).mono ?_)
         · first | exact HO5.out | exact (HO5.out.below (KB.out _ (by assumption))).more (KB.out _ (by assumption)).size
         have hz6 := (KB.out _ (by assumption)).size
         rintro e w6 ⟨g6, c6, rfl, ho6, hb6⟩)
      | (go_at_call 80
         (with_reducible refine (two_on (some ⟨g6, 0, none⟩) 3 c6 _ [16, at_ / 256, at_ % 256] (wl : Int) _ 5 [16, at_ / 256, at_ % 256, (wl : Int) / 256, (wl : Int) % 256] rfl rfl rfl ?_ n0 n1 (by omega)).mono ?_)
         · first | exact own_row ho6 | exact own_row (ho6.alloc _)
         have hz7 := (KB.out _ (by assumption)).size
         rintro e w7 ⟨g7, c7, rfl, ho7, hb7⟩))
  all_goals
    go_wp2
    go_ret2
    exact ⟨_, _, rfl, hr9, HB5.out.trans ((KB.out _ (by assumption)).mono HB5.out.size)⟩

set_option maxRecDepth 100000 in
set_option maxHeartbeats 1000000 in
theorem rbytes_23 (at_ v an orr : Int) (bl wl : Nat) (ra rn co ob : Int) (BA WA : Option Addr) (bc wc : Nat) (w : World) (hrt : rightP 23 at_ wl v an orr bl wl ra rn co ob) (ws : List Int) (hws : Row .u16 w w.heap.size WA wl ws) (hxw : Words ws) :
    Calls Try.prog 37 #[.agg #[.int .i64 23, .int .i64 at_, .int .i64 (wl : Int), .int .u16 v, .int .u16 an, .int .u16 orr, .slice BA bl bc, .slice WA wl wc, .int .i64 ra, .int .i64 rn, .int .i64 co, .int .i64 ob]] w fun e w' => ∃ C cap, e = .returned (.tuple #[.slice C (10 + 2 * wl) cap, .int .i64 0]) ∧ Row .u8 w' w'.heap.size C (10 + 2 * wl) ([23, ra / 256, ra % 256, rn / 256, rn % 256, at_ / 256, at_ % 256, (wl : Int) / 256, (wl : Int) % 256, 2 * (wl : Int)] ++ flat ws) ∧ Below w.heap.size w w' := by
  have hrt0 := hrt
  obtain ⟨_, hpl, ⟨a0, a1⟩, ⟨r0, r1⟩, hfit⟩ := hrt0
  unfold plainP at hpl
  unfold fitsP at hfit
  have hm : kMostW 23 = 121 := rfl
  have hm2 : kMostR 23 = 125 := rfl
  have n2 : wl ≤ 121 := by omega
  have n0 : 0 ≤ (wl : Int) := by omega
  have n1 : (wl : Int) ≤ 65535 := by omega
  have q0 : 0 ≤ rn := by omega
  have q1 : rn ≤ 65535 := by omega
  have hw1 : IntKind.i64.wrap (2 * (wl : Int)) = 2 * (wl : Int) := IntWalk.i64_in _ (by omega)
  have hw2 : IntKind.u8.wrap (2 * (wl : Int)) = 2 * (wl : Int) := IntWalk.u8_in _ (by omega)
  have HWS := Lib.hid hws
  have HXW := Lib.hid hxw
  clear hfit hpl hm hm2 hws hxw
  have HRt := Lib.hid hrt
  clear hrt
  go_enter Try.func37, Try.ntmps37
  go_wp2_with (
       go_at_call 63
       refine (right_yes 23 at_ wl v an orr bl wl ra rn co ob BA WA bc wc _ HRt.out).mono ?_
       rintro e w4 ⟨rfl, hb4⟩
       have HB4 : Hid (Below w.heap.size w w4) := ((Below.refl _ _).alloc (Nat.le_refl _) _).trans (hb4.mono (by simp))
       have hk4 : Below (w.heap.size + 1) (w.alloc (.cells #[.int .i64 23, .int .i64 at_, .int .i64 (wl : Int), .int .u16 v, .int .u16 an, .int .u16 orr, .slice BA bl bc, .slice WA wl wc, .int .i64 ra, .int .i64 rn, .int .i64 co, .int .i64 ob] 51)) w4 := by
         rwa [show (w.alloc (.cells #[.int .i64 23, .int .i64 at_, .int .i64 (wl : Int), .int .u16 v, .int .u16 an, .int .u16 orr, .slice BA bl bc, .slice WA wl wc, .int .i64 ra, .int .i64 rn, .int .i64 co, .int .i64 ob] 51)).heap.size = w.heap.size + 1 by simp] at hb4
       have hz4 : w.heap.size + 1 ≤ w4.heap.size := by have := hk4.size; simp at this; omega
       have HK4 := Lib.hid hk4
       obtain ⟨hc0, hc1, hc2, hc3, hc4, hc5, hc6, hc7, hc8, hc9, hc10, hc11⟩ := box12 _ _ _ _ _ _ _ _ _ _ _ _ _ w w4 hk4
       have hd0 : (w4.alloc (.cells #[.int .u8 23] 5)).cell? ⟨w.heap.size, 0, none⟩ = some (.int .i64 23) := (World.cell?_alloc_lt w4 _ ⟨w.heap.size, 0, none⟩ hz4).trans hc0
       clear hb4 hk4 hc1 hc2 hc3 hc4 hc5 hc6 hc7 hc8 hc9 hc10 hc11)
  obtain ⟨w5, hw5⟩ : ∃ w5, w4.alloc (.cells #[.int .u8 23] 5) = w5 := ⟨_, rfl⟩
  have hb5 : Below w4.heap.size w4 w5 := by rw [← hw5]; exact (Below.refl _ _).alloc (Nat.le_refl _) _
  have HB5 : Hid (Below w.heap.size w w5) := HB4.out.trans (hb5.mono HB4.out.size)
  have HK5 := Lib.hid (HK4.out.trans (hb5.mono hz4))
  have HZ5 : Hid (w.heap.size + 1 ≤ w5.heap.size) := Nat.le_trans hz4 hb5.size
  have HO5 : Hid (RowV w5 w5.heap.size (some ⟨w4.heap.size, 0, none⟩) 1 [.int .u8 23]) := by rw [← hw5]; exact built_row w4 _ [.int .u8 23] _ (Below.refl _ _)
  have KS : Hid (∀ W, Below w5.heap.size w5 W → W.cell? ⟨w.heap.size, 1, none⟩ = some (.int .i64 at_) ∧ W.cell? ⟨w.heap.size, 2, none⟩ = some (.int .i64 (wl : Int)) ∧ W.cell? ⟨w.heap.size, 7, none⟩ = some (.slice WA wl wc) ∧ W.cell? ⟨w.heap.size, 8, none⟩ = some (.int .i64 ra) ∧ W.cell? ⟨w.heap.size, 9, none⟩ = some (.int .i64 rn) ∧ Below w5.heap.size w5 W) := by
    intro W hb
    obtain ⟨_, hc1, hc2, hc3, hc4, hc5, hc6, hc7, hc8, hc9, hc10, hc11⟩ := box12 _ _ _ _ _ _ _ _ _ _ _ _ _ w W (HK5.out.trans (hb.mono HZ5.out))
    exact ⟨hc1, hc2, hc7, hc8, hc9, hb⟩
  have KB : Hid (∀ W, (W.cell? ⟨w.heap.size, 1, none⟩ = some (.int .i64 at_) ∧ W.cell? ⟨w.heap.size, 2, none⟩ = some (.int .i64 (wl : Int)) ∧ W.cell? ⟨w.heap.size, 7, none⟩ = some (.slice WA wl wc) ∧ W.cell? ⟨w.heap.size, 8, none⟩ = some (.int .i64 ra) ∧ W.cell? ⟨w.heap.size, 9, none⟩ = some (.int .i64 rn) ∧ Below w5.heap.size w5 W) → Below w5.heap.size w5 W) := fun W hs => hs.2.2.2.2.2
  have KT : Hid (∀ W W', (W.cell? ⟨w.heap.size, 1, none⟩ = some (.int .i64 at_) ∧ W.cell? ⟨w.heap.size, 2, none⟩ = some (.int .i64 (wl : Int)) ∧ W.cell? ⟨w.heap.size, 7, none⟩ = some (.slice WA wl wc) ∧ W.cell? ⟨w.heap.size, 8, none⟩ = some (.int .i64 ra) ∧ W.cell? ⟨w.heap.size, 9, none⟩ = some (.int .i64 rn) ∧ Below w5.heap.size w5 W) → Below W.heap.size W W' → W'.cell? ⟨w.heap.size, 1, none⟩ = some (.int .i64 at_) ∧ W'.cell? ⟨w.heap.size, 2, none⟩ = some (.int .i64 (wl : Int)) ∧ W'.cell? ⟨w.heap.size, 7, none⟩ = some (.slice WA wl wc) ∧ W'.cell? ⟨w.heap.size, 8, none⟩ = some (.int .i64 ra) ∧ W'.cell? ⟨w.heap.size, 9, none⟩ = some (.int .i64 rn) ∧ Below w5.heap.size w5 W') := fun W W' hs hb => KS.out _ ((KB.out _ hs).trans (hb.mono (KB.out _ hs).size))
  rw [hw5]
  clear hw5 hb5
  go_region_held3 (fun W => W.cell? ⟨w.heap.size, 1, none⟩ = some (.int .i64 at_) ∧ W.cell? ⟨w.heap.size, 2, none⟩ = some (.int .i64 (wl : Int)) ∧ W.cell? ⟨w.heap.size, 7, none⟩ = some (.slice WA wl wc) ∧ W.cell? ⟨w.heap.size, 8, none⟩ = some (.int .i64 ra) ∧ W.cell? ⟨w.heap.size, 9, none⟩ = some (.int .i64 rn) ∧ Below w5.heap.size w5 W)
    (first
      | exact KS.out _ (Below.refl _ _).drew
      | exact KT.out _ _ (by assumption) hb9
      | exact KT.out _ _ (by assumption) hb8
      | exact KT.out _ _ (by assumption) hb7
      | exact KT.out _ _ (by assumption) hb6
      | exact KT.out _ _ (by assumption) ((Below.refl _ _).alloc (Nat.le_refl _) _))
    (first
      | (go_at_call 80
         (with_reducible refine (two_on (some ⟨w4.heap.size, 0, none⟩) 1 1 _ [23] ra _ 3 [23, ra / 256, ra % 256] rfl rfl rfl ?_ r0 r1 (by omega)).mono ?_)
         · first | exact HO5.out | exact (HO5.out.below (KB.out _ (by assumption))).more (KB.out _ (by assumption)).size
         have hz6 := (KB.out _ (by assumption)).size
         rintro e w6 ⟨g6, c6, rfl, ho6, hb6⟩)
      | (go_at_call 80
         (with_reducible refine (two_on (some ⟨g6, 0, none⟩) 3 c6 _ [23, ra / 256, ra % 256] rn _ 5 [23, ra / 256, ra % 256, rn / 256, rn % 256] rfl rfl rfl ?_ q0 q1 (by omega)).mono ?_)
         · first | exact own_row ho6 | exact own_row (ho6.alloc _)
         have hz7 := (KB.out _ (by assumption)).size
         rintro e w7 ⟨g7, c7, rfl, ho7, hb7⟩)
      | (go_at_call 80
         (with_reducible refine (two_on (some ⟨g7, 0, none⟩) 5 c7 _ [23, ra / 256, ra % 256, rn / 256, rn % 256] at_ _ 7 [23, ra / 256, ra % 256, rn / 256, rn % 256, at_ / 256, at_ % 256] rfl rfl rfl ?_ a0 a1 (by omega)).mono ?_)
         · first | exact own_row ho7 | exact own_row (ho7.alloc _)
         have hz8 := (KB.out _ (by assumption)).size
         rintro e w8 ⟨g8, c8, rfl, ho8, hb8⟩)
      | (go_at_call 80
         (with_reducible refine (two_on (some ⟨g8, 0, none⟩) 7 c8 _ [23, ra / 256, ra % 256, rn / 256, rn % 256, at_ / 256, at_ % 256] (wl : Int) _ 9 [23, ra / 256, ra % 256, rn / 256, rn % 256, at_ / 256, at_ % 256, (wl : Int) / 256, (wl : Int) % 256] rfl rfl rfl ?_ n0 n1 (by omega)).mono ?_)
         · first | exact own_row ho8 | exact own_row (ho8.alloc _)
         have hz9 := (KB.out _ (by assumption)).size
         rintro e w9 ⟨g9, c9, rfl, ho9, hb9⟩))
  go_wp2
  go_region_held3 (fun W => W.cell? ⟨w.heap.size, 1, none⟩ = some (.int .i64 at_) ∧ W.cell? ⟨w.heap.size, 2, none⟩ = some (.int .i64 (wl : Int)) ∧ W.cell? ⟨w.heap.size, 7, none⟩ = some (.slice WA wl wc) ∧ W.cell? ⟨w.heap.size, 8, none⟩ = some (.int .i64 ra) ∧ W.cell? ⟨w.heap.size, 9, none⟩ = some (.int .i64 rn) ∧ Below w5.heap.size w5 W)
    (first
      | exact KT.out _ _ (by assumption) (Below.refl _ _).drew
      | exact KT.out _ _ (by assumption) hb12
      | exact KT.out _ _ (by assumption) ((Below.refl _ _).alloc (Nat.le_refl _) _)
      | assumption
      | exact KS.out _ (below_append (KB.out _ (by assumption)) (own_mono ho9 hz9) hg8 (KB.out _ (by assumption)).size)
      | exact KS.out _ (below_append (KB.out _ (by assumption)) ((own_mono ho9 hz9).alloc _) hg8 (KB.out _ (by assumption)).size)
      | exact KS.out _ (below_append (KB.out _ (by assumption)) ((own_mono ho9 hz9).alloc _).drew hg8 (KB.out _ (by assumption)).size))
    (first
      | (refine step_append_to (.tmp 114) (.tmp 119) 22 w5.heap.size 5 (.int .u8 0) 1 Try.underlying22 info5 rfl (.slice (some ⟨g9, 0, none⟩) 9 c9) 9 ([23, ra / 256, ra % 256, rn / 256, rn % 256, at_ / 256, at_ % 256, (wl : Int) / 256, (wl : Int) % 256].map (Value.int .u8)) 1 [.int .u8 (2 * (wl : Int))] 10 ([23, ra / 256, ra % 256, rn / 256, rn % 256, at_ / 256, at_ % 256, (wl : Int) / 256, (wl : Int) % 256, 2 * (wl : Int)].map (Value.int .u8)) rfl rfl (by simp [Value.oneCell']) (by omega) (by omega) ?_ ?_ ?_ ?_ ?_
         · exact ⟨rfl, rfl, rfl⟩
         · first | exact own_mono ho9 hz9 | exact (own_mono ho9 hz9).alloc _ | exact ((own_mono ho9 hz9).alloc _).drew
         · first
             | exact ⟨_, _, rfl, built_row _ _ [.int .u8 (2 * (wl : Int))] _ (Below.refl _ _)⟩
             | exact ⟨_, _, rfl, built_row _ _ [.int .u8 (2 * (wl : Int))] _ (Below.refl _ _).drew⟩
         · exact (KB.out _ (by assumption)).size
         intro A8 c8 w8 ho8 hg8)
      | (go_at_call 83
         refine (rwords A8 10 c8 [23, ra / 256, ra % 256, rn / 256, rn % 256, at_ / 256, at_ % 256, (wl : Int) / 256, (wl : Int) % 256, 2 * (wl : Int)] WA wl wc ws _ (own_row ho8).ints ?_ HXW.out (by omega) (by omega)).mono ?_
         · have hk := HB5.out.trans ((KB.out _ (by assumption)).mono HB5.out.size)
           exact (HWS.out.below hk).more hk.size
         rintro e w12 ⟨C9, c9, rfl, hr9, hb12⟩))
  all_goals
    go_wp2
    go_ret2
    exact ⟨_, _, rfl, hr9, HB5.out.trans ((KB.out _ (by assumption)).mono HB5.out.size)⟩

set_option maxRecDepth 100000 in
set_option maxHeartbeats 1000000 in
theorem rbytes_43 (at_ n v an orr : Int) (bl wl : Nat) (ra rn co ob : Int) (BA WA : Option Addr) (bc wc : Nat) (w : World) (hrt : rightP 43 at_ n v an orr bl wl ra rn co ob) :
    Calls Try.prog 37 #[.agg #[.int .i64 43, .int .i64 at_, .int .i64 n, .int .u16 v, .int .u16 an, .int .u16 orr, .slice BA bl bc, .slice WA wl wc, .int .i64 ra, .int .i64 rn, .int .i64 co, .int .i64 ob]] w fun e w' => ∃ C cap, e = .returned (.tuple #[.slice C 4 cap, .int .i64 0]) ∧ Row .u8 w' w'.heap.size C 4 [43, 14, co, ob] ∧ Below w.heap.size w w' := by
  have hrt0 := hrt
  obtain ⟨_, hpl, ⟨a0, a1⟩, ⟨r0, r1⟩, hfit⟩ := hrt0
  unfold plainP at hpl
  unfold fitsP at hfit
  have o0 : 0 ≤ ob := by omega
  have o1 : ob ≤ 255 := by omega
  have c0 : 0 ≤ co := by omega
  have c1 : co ≤ 255 := by omega
  clear hfit hpl
  have HRt := Lib.hid hrt
  clear hrt
  go_enter Try.func37, Try.ntmps37
  go_wp2_with (first
    | (go_at_call 63
       refine (right_yes 43 at_ n v an orr bl wl ra rn co ob BA WA bc wc _ HRt.out).mono ?_
       rintro e w4 ⟨rfl, hb4⟩
       have HB4 : Hid (Below w.heap.size w w4) := ((Below.refl _ _).alloc (Nat.le_refl _) _).trans (hb4.mono (by simp))
       have hk4 : Below (w.heap.size + 1) (w.alloc (.cells #[.int .i64 43, .int .i64 at_, .int .i64 n, .int .u16 v, .int .u16 an, .int .u16 orr, .slice BA bl bc, .slice WA wl wc, .int .i64 ra, .int .i64 rn, .int .i64 co, .int .i64 ob] 51)) w4 := by
         rwa [show (w.alloc (.cells #[.int .i64 43, .int .i64 at_, .int .i64 n, .int .u16 v, .int .u16 an, .int .u16 orr, .slice BA bl bc, .slice WA wl wc, .int .i64 ra, .int .i64 rn, .int .i64 co, .int .i64 ob] 51)).heap.size = w.heap.size + 1 by simp] at hb4
       have hz4 : w.heap.size + 1 ≤ w4.heap.size := by have := hk4.size; simp at this; omega
       have HK4 := Lib.hid hk4
       obtain ⟨hc0, hc1, hc2, hc3, hc4, hc5, hc6, hc7, hc8, hc9, hc10, hc11⟩ := box12 _ _ _ _ _ _ _ _ _ _ _ _ _ w w4 hk4
       have hd0 : (w4.alloc (.cells #[.int .u8 43] 5)).cell? ⟨w.heap.size, 0, none⟩ = some (.int .i64 43) := (World.cell?_alloc_lt w4 _ ⟨w.heap.size, 0, none⟩ hz4).trans hc0
       have hd10 : (w4.alloc (.cells #[.int .u8 43] 5)).cell? ⟨w.heap.size, 10, none⟩ = some (.int .i64 co) := (World.cell?_alloc_lt w4 _ ⟨w.heap.size, 10, none⟩ hz4).trans hc10
       have hd11 : (w4.alloc (.cells #[.int .u8 43] 5)).cell? ⟨w.heap.size, 11, none⟩ = some (.int .i64 ob) := (World.cell?_alloc_lt w4 _ ⟨w.heap.size, 11, none⟩ hz4).trans hc11
       have HO5 := Lib.hid ((own_of_whole (B := w.heap.size) (n := 1) (vs := [.int .u8 43]) (heap_alloc_new w4 (.cells #[.int .u8 43] 5)) (by omega) rfl (by omega)).alloc (.cells #[.int .u8 14, .int .u8 co, .int .u8 ob] 5))
       have HBw : Hid (Below w.heap.size w ((w4.alloc (.cells #[.int .u8 43] 5)).alloc (.cells #[.int .u8 14, .int .u8 co, .int .u8 ob] 5))) := (HB4.out.alloc HB4.out.size _).alloc (by have := HB4.out.size; simp; omega) _
       have hw5 := built_row (w4.alloc (.cells #[.int .u8 43] 5)) _ [.int .u8 14, .int .u8 co, .int .u8 ob] 5 (Below.refl _ _)
       rw [show (w4.alloc (.cells #[.int .u8 43] 5)).heap.size = w4.heap.size + 1 by simp] at hw5
       have HW5 := Lib.hid hw5
       clear hw5
       clear hb4 hk4 hc1 hc2 hc3 hc4 hc5 hc6 hc7 hc8 hc9 hc10 hc11)
    | (at_builtin
       refine wpList_append_row _ (o := ⟨some 132, _, _, _, _, _⟩) rfl (.tmp 124) (.tmp 131) 22 rfl w.heap.size 5 (.int .u8 0) 1 Try.underlying22 info5 rfl (.slice (some ⟨w4.heap.size, 0, none⟩) 1 1) 1 _ rfl HO5.out _ (some ⟨w4.heap.size + 1, 0, none⟩) 3 3 _ rfl HW5.out (by simp [Value.oneCell']) (by omega) (by omega) HBw.out.size ?_
       intro v6 w6 hown hg hat
       obtain ⟨B6, c6, rfl⟩ := own_slice hown
       have HB6 := Lib.hid (below_append HBw.out HO5.out hg HBw.out.size)
       have HO6 := Lib.hid hown
       clear hown hg hat))
  go_ret2
  exact ⟨_, _, rfl, (own_row HO6.out).ints (zs := [43, 14, co, ob]), HB6.out⟩

theorem rbytes_of {P : Program} {f : FuncId} {a : Array Value} {w : World} {ys zs : List Int} {n : Nat} (h : Calls P f a w fun e w' => ∃ C cap, e = .returned (.tuple #[.slice C n cap, .int .i64 0]) ∧ Row .u8 w' w'.heap.size C n ys ∧ Below w.heap.size w w') (hl : ys = zs) (hn : zs.length = n) :
    Calls P f a w fun e w' => ∃ C cap, e = .returned (.tuple #[.slice C zs.length cap, .int .i64 0]) ∧ Row .u8 w' w'.heap.size C zs.length zs ∧ Below w.heap.size w w' := by
  subst hl hn
  exact h
/-- AskBytes of a right request. -/
theorem rbytes_yes (fn at_ n v an orr : Int) (bs : List Bool) (ws : List Int) (ra rn co ob : Int) (BA WA : Option Addr) (bl wl bc wc : Nat) (w : World) (h : rightP fn at_ n v an orr bl wl ra rn co ob) (v0 : 0 ≤ v) (v1 : v ≤ 65535) (x0 : 0 ≤ an) (x1 : an ≤ 65535) (y0 : 0 ≤ orr) (y1 : orr ≤ 65535)
    (hbs : BRow w w.heap.size BA bl bs) (hws : Row .u16 w w.heap.size WA wl ws) (hxw : Words ws) :
    Calls Try.prog 37 #[.agg #[.int .i64 fn, .int .i64 at_, .int .i64 n, .int .u16 v, .int .u16 an, .int .u16 orr, .slice BA bl bc, .slice WA wl wc, .int .i64 ra, .int .i64 rn, .int .i64 co, .int .i64 ob]] w fun e w' => ∃ C cap, e = .returned (.tuple #[.slice C (enc fn at_ n v an orr bs ws ra rn co ob).length cap, .int .i64 0]) ∧ Row .u8 w' w'.heap.size C (enc fn at_ n v an orr bs ws ra rn co ob).length (enc fn at_ n v an orr bs ws ra rn co ob) ∧ Below w.heap.size w w' := by
  have hk := h.1
  have hfit := h.2.2.2.2
  unfold fitsP at hfit
  rcases kinds fn with rfl | rfl | rfl | rfl | rfl | rfl | rfl | rfl | rfl | rfl | rfl | hno
  · exact rbytes_of (rbytes_1 at_ n v an orr bl wl ra rn co ob BA WA bc wc w h) rfl rfl
  · exact rbytes_of (rbytes_2 at_ n v an orr bl wl ra rn co ob BA WA bc wc w h) rfl rfl
  · exact rbytes_of (rbytes_3 at_ n v an orr bl wl ra rn co ob BA WA bc wc w h) rfl rfl
  · exact rbytes_of (rbytes_4 at_ n v an orr bl wl ra rn co ob BA WA bc wc w h) rfl rfl
  · exact rbytes_of (rbytes_5 at_ n v an orr bl wl ra rn co ob BA WA bc wc w h v0 v1) rfl rfl
  · exact rbytes_of (rbytes_6 at_ n v an orr bl wl ra rn co ob BA WA bc wc w h v0 v1) rfl rfl
  · obtain rfl : n = (bl : Int) := by omega
    have hl := hbs.1
    exact rbytes_of (rbytes_15 at_ v an orr bl wl ra rn co ob BA WA bc wc w h bs hbs) (by subst hl; rfl) (by subst hl; simp [enc, be, pk_length]; omega)
  · obtain rfl : n = (wl : Int) := by omega
    have hl := hws.1
    exact rbytes_of (rbytes_16 at_ v an orr bl wl ra rn co ob BA WA bc wc w h ws hws hxw) (by subst hl; rfl) (by subst hl; simp [enc, be, flat_length]; omega)
  · exact rbytes_of (rbytes_22 at_ n v an orr bl wl ra rn co ob BA WA bc wc w h x0 x1 y0 y1) rfl rfl
  · obtain rfl : n = (wl : Int) := by omega
    have hl := hws.1
    exact rbytes_of (rbytes_23 at_ v an orr bl wl ra rn co ob BA WA bc wc w h ws hws hxw) (by subst hl; rfl) (by subst hl; simp [enc, be, flat_length]; omega)
  · exact rbytes_of (rbytes_43 at_ n v an orr bl wl ra rn co ob BA WA bc wc w h) rfl rfl
  · rw [hno.known] at hk; cases hk

end Go.Proofs.Ythmendcdfhlkkaa

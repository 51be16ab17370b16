/- The same lists, the same requests, the same spans: SameWords, sameBits, SameAsk, SameSpans; Digit. -/
import Derived.Test.YtebpilfogdenjaaAskSpec
import Derived.Test.YtebpilfogdenjaaWithin
namespace Go.Proofs.Ytebpilfogdenjaa
open Go.ChangeShapes Go.WideShapes Go.ChangeAt Go.RowKit
set_option linter.unusedVariables false

theorem digit_any (k d n : Int) (w : World) (h0 : -9223372036854775808 ≤ k) (h1 : k ≤ 9223372036854775807) (hd : 1 < d) (hd1 : d ≤ 4611686018427387903) (hn : 0 < n) (hn1 : n ≤ 4611686018427387903) :
    Calls Try.prog 32 #[.int .i64 k, .int .i64 d, .int .i64 n] w fun e w' => e = .returned (.int .i64 ((k.tdiv d) % n)) ∧ w = w' := by
  have hb : -9223372036854775808 ≤ k.tdiv d ∧ k.tdiv d ≤ 9223372036854775807 := by
    rcases Int.le_total 0 k with h | h
    · rw [Int.tdiv_eq_ediv_of_nonneg h]
      have := Int.ediv_le_self d h
      have := Int.ediv_nonneg h (show 0 ≤ d by omega)
      omega
    · have e : k.tdiv d = - ((-k) / d) := by
        have := Int.neg_tdiv (-k) d
        rw [Int.neg_neg] at this
        rw [this, Int.tdiv_eq_ediv_of_nonneg (show 0 ≤ -k by omega)]
      have := Int.ediv_le_self d (show 0 ≤ -k by omega)
      have := Int.ediv_nonneg (show 0 ≤ -k by omega) (show 0 ≤ d by omega)
      omega
  obtain ⟨q, hq⟩ : ∃ q, k.tdiv d = q := ⟨_, rfl⟩
  rw [hq] at hb ⊢
  have b0 := hb.1
  have b1 := hb.2
  have hd0 : d ≠ 0 := by omega
  have hd2 : d ≠ -1 := by omega
  clear hb
  go_enter Try.func32, Try.ntmps32
  go_wp2_with (go_at_call 9; refine (within_any q n _ b0 b1 hn hn1).mono ?_; rintro e w' ⟨rfl, rfl⟩)
  go_ret
  exact ⟨rfl, rfl⟩

theorem samewords_yes (A B : Option Addr) (n c d : Nat) (zs : List Int) (w : World) (ha : Row .u16 w w.heap.size A n zs) (hb : Row .u16 w w.heap.size B n zs) (hn : n ≤ 100000) :
    Calls Try.prog 27 #[.slice A n c, .slice B n d] w (Quiet (.bool true) w) := by
  have HA := Lib.hid ha
  have HB := Lib.hid hb
  clear ha hb
  go_enter Try.func27, Try.ntmps27
  go_wp2
  go_loopw [5] (fun i wr => ∃ k d : Nat, k ≤ n ∧ i = .int .i64 (k : Int) ∧ wr = w.drewN d) (fun i _ => n - (intOf i).toNat)
  case atStart => exact ⟨0, 0, by omega, rfl, rfl⟩
  case round =>
    obtain ⟨k, d, hk, rfl, rfl⟩ := hrel
    by_cases hlt : k < n
    · obtain ⟨b, off, rfl, hb, hcell⟩ := HA.out.2 (by omega)
      obtain ⟨b', off', rfl, hb', hcell'⟩ := HB.out.2 (by omega)
      have hc1 := hcell k hlt
      have hc2 := hcell' k hlt
      have hi1 : (k : Int) < (n : Int) := by omega
      clear hcell hcell'
      go_wp2
      go_quiet (fail)
      go_wp2
      go_roundw
      case rel => exact ⟨k + 1, _, by omega, by go_num, rfl⟩
      case measure => simp [intOf]; omega
    · go_wp2
      go_ret
      exact ⟨rfl, _, rfl⟩

theorem samebits5_yes (A B : Option Addr) (n c d : Nat) (bs : List Bool) (w : World) (ha : BRow w w.heap.size A n bs) (hb : BRow w w.heap.size B n bs) (hn : n ≤ 100000) :
    Calls Try.prog 26 #[.slice A n c, .slice B n d] w (Quiet (.bool true) w) := by
  have HA := Lib.hid ha
  have HB := Lib.hid hb
  clear ha hb
  go_enter Try.func26, Try.ntmps26
  go_wp2
  go_loopw [5] (fun i wr => ∃ k d : Nat, k ≤ n ∧ i = .int .i64 (k : Int) ∧ wr = w.drewN d) (fun i _ => n - (intOf i).toNat)
  case atStart => exact ⟨0, 0, by omega, rfl, rfl⟩
  case round =>
    obtain ⟨k, d, hk, rfl, rfl⟩ := hrel
    by_cases hlt : k < n
    · obtain ⟨b, off, rfl, hb, hcell⟩ := HA.out.2 (by omega)
      obtain ⟨b', off', rfl, hb', hcell'⟩ := HB.out.2 (by omega)
      have hc1 := hcell k hlt
      have hc2 := hcell' k hlt
      have hi1 : (k : Int) < (n : Int) := by omega
      clear hcell hcell'
      go_wp2
      go_quiet (fail)
      go_wp2
      go_roundw
      case rel => exact ⟨k + 1, _, by omega, by go_num, rfl⟩
      case measure => simp [intOf]; omega
    · go_wp2
      go_ret
      exact ⟨rfl, _, rfl⟩

set_option maxHeartbeats 1000000 in
theorem sameask_yes (fn at_ n v an orr : Int) (bl wl : Nat) (ra rn co ob : Int) (BA WA BB WB : Option Addr) (bc wc bd wd : Nat) (bs : List Bool) (ws : List Int) (w : World)
    (h1 : BRow w w.heap.size BA bl bs) (h2 : BRow w w.heap.size BB bl bs) (h3 : Row .u16 w w.heap.size WA wl ws) (h4 : Row .u16 w w.heap.size WB wl ws) (hb : bl ≤ 100000) (hw : wl ≤ 100000) :
    Calls Try.prog 13 #[.agg #[.int .i64 fn, .int .i64 at_, .int .i64 n, .int .u16 v, .int .u16 an, .int .u16 orr, .slice BA bl bc, .slice WA wl wc, .int .i64 ra, .int .i64 rn, .int .i64 co, .int .i64 ob], .agg #[.int .i64 fn, .int .i64 at_, .int .i64 n, .int .u16 v, .int .u16 an, .int .u16 orr, .slice BB bl bd, .slice WB wl wd, .int .i64 ra, .int .i64 rn, .int .i64 co, .int .i64 ob]] w fun e w' => e = .returned (.bool true) ∧ Below w.heap.size w w' := by
  obtain ⟨w2, hw2⟩ : ∃ w2, (w.alloc (.cells #[.int .i64 fn, .int .i64 at_, .int .i64 n, .int .u16 v, .int .u16 an, .int .u16 orr, .slice BA bl bc, .slice WA wl wc, .int .i64 ra, .int .i64 rn, .int .i64 co, .int .i64 ob] 30)).alloc (.cells #[.int .i64 fn, .int .i64 at_, .int .i64 n, .int .u16 v, .int .u16 an, .int .u16 orr, .slice BB bl bd, .slice WB wl wd, .int .i64 ra, .int .i64 rn, .int .i64 co, .int .i64 ob] 30) = w2 := ⟨_, rfl⟩
  have hk : Below w.heap.size w w2 := by rw [← hw2]; exact ((Below.refl _ _).alloc (Nat.le_refl _) _).alloc (by simp) _
  have H1 := Lib.hid ((h1.below hk).more hk.size)
  have H2 := Lib.hid ((h2.below hk).more hk.size)
  have H3 := Lib.hid ((h3.below hk).more hk.size)
  have H4 := Lib.hid ((h4.below hk).more hk.size)
  have HK := Lib.hid hk
  rw [← hw2] at H1 H2 H3 H4 HK
  clear h1 h2 h3 h4 hk hw2
  go_enter Try.func13, Try.ntmps13
  go_wp2_with (first
    | (go_at_call 26; (with_reducible refine (samebits5_yes BA BB bl bc bd bs _ H1.out H2.out hb).mono ?_); rintro e w' ⟨rfl, d1, rfl⟩)
    | (go_at_call 27; (with_reducible refine (samewords_yes WA WB wl wc wd ws _ (H3.out.drewN _) (H4.out.drewN _) hw).mono ?_); rintro e w' ⟨rfl, d2, rfl⟩))
  go_ret
  exact ⟨rfl, below_drewN HK.out _⟩

end Go.Proofs.Ytebpilfogdenjaa

/- The same lists, the same requests, the same spans: SameWords, sameBits, SameAsk, SameSpans; Digit. -/
import Derived.Test.YthmendcdfhlkkaaAskSpec
import Derived.Test.YthmendcdfhlkkaaWithin
namespace Go.Proofs.Ythmendcdfhlkkaa
open Go.ChangeShapes Go.WideShapes Go.ChangeAt Go.RowKit
set_option linter.unusedVariables false

theorem digit_any (k d n : Int) (w : World) (h0 : -9223372036854775808 ≤ k) (h1 : k ≤ 9223372036854775807) (hd : 1 < d) (hd1 : d ≤ 4611686018427387903) (hn : 0 < n) (hn1 : n ≤ 4611686018427387903) :
    Calls Try.prog 28 #[.int .i64 k, .int .i64 d, .int .i64 n] w fun e w' => e = .returned (.int .i64 ((k.tdiv d) % n)) ∧ w = w' := by
  have hb : -9223372036854775808 ≤ k.tdiv d ∧ k.tdiv d ≤ 9223372036854775807 := by
    rcases Int.le_total 0 k with h | h
    · rw [Int.tdiv_eq_ediv_of_nonneg h]
      have := Int.ediv_le_self d h
      have := Int.ediv_nonneg h (show 0 ≤ d by omega)
      omega
    · have e : k.tdiv d = - ((-k) / d) := by
        have := Int.neg_tdiv (-k) d
        rw [Int.neg_neg] at this
        rw [this, Int.tdiv_eq_ediv_of_nonneg (show 0 ≤ -k by omega)]
      have := Int.ediv_le_self d (show 0 ≤ -k by omega)
      have := Int.ediv_nonneg (show 0 ≤ -k by omega) (show 0 ≤ d by omega)
      omega
  obtain ⟨q, hq⟩ : ∃ q, k.tdiv d = q := ⟨_, rfl⟩
  rw [hq] at hb ⊢
  have b0 := hb.1
  have b1 := hb.2
  have hd0 : d ≠ 0 := by omega
  have hd2 : d ≠ -1 := by omega
  clear hb
  go_enter Try.func28, Try.ntmps28
  go_wp2_with (go_at_call 11; refine (within_any q n _ b0 b1 hn hn1).mono ?_; rintro e w' ⟨rfl, rfl⟩)
  go_ret
  exact ⟨rfl, rfl⟩

theorem samewords_yes (A B : Option Addr) (n c d : Nat) (zs : List Int) (w : World) (ha : Row .u16 w w.heap.size A n zs) (hb : Row .u16 w w.heap.size B n zs) (hn : n ≤ 100000) :
    Calls Try.prog 45 #[.slice A n c, .slice B n d] w (Quiet (.bool true) w) := by
  have HA := Lib.hid ha
  have HB := Lib.hid hb
  clear ha hb
  go_enter Try.func45, Try.ntmps45
  go_wp2
  go_loopw [5] (fun i wr => ∃ k d : Nat, k ≤ n ∧ i = .int .i64 (k : Int) ∧ wr = w.drewN d) (fun i _ => n - (intOf i).toNat)
  case atStart => exact ⟨0, 0, by omega, rfl, rfl⟩
  case round =>
    obtain ⟨k, d, hk, rfl, rfl⟩ := hrel
    by_cases hlt : k < n
    · obtain ⟨b, off, rfl, hb, hcell⟩ := HA.out.2 (by omega)
      obtain ⟨b', off', rfl, hb', hcell'⟩ := HB.out.2 (by omega)
      have hc1 := hcell k hlt
      have hc2 := hcell' k hlt
      have hi1 : (k : Int) < (n : Int) := by omega
      clear hcell hcell'
      go_wp2
      go_quiet (fail)
      go_wp2
      go_roundw
      case rel => exact ⟨k + 1, _, by omega, by go_num, rfl⟩
      case measure => simp [intOf]; omega
    · go_wp2
      go_ret
      exact ⟨rfl, _, rfl⟩

theorem samebits5_yes (A B : Option Addr) (n c d : Nat) (bs : List Bool) (w : World) (ha : BRow w w.heap.size A n bs) (hb : BRow w w.heap.size B n bs) (hn : n ≤ 100000) :
    Calls Try.prog 44 #[.slice A n c, .slice B n d] w (Quiet (.bool true) w) := by
  have HA := Lib.hid ha
  have HB := Lib.hid hb
  clear ha hb
  go_enter Try.func44, Try.ntmps44
  go_wp2
  go_loopw [5] (fun i wr => ∃ k d : Nat, k ≤ n ∧ i = .int .i64 (k : Int) ∧ wr = w.drewN d) (fun i _ => n - (intOf i).toNat)
  case atStart => exact ⟨0, 0, by omega, rfl, rfl⟩
  case round =>
    obtain ⟨k, d, hk, rfl, rfl⟩ := hrel
    by_cases hlt : k < n
    · obtain ⟨b, off, rfl, hb, hcell⟩ := HA.out.2 (by omega)
      obtain ⟨b', off', rfl, hb', hcell'⟩ := HB.out.2 (by omega)
      have hc1 := hcell k hlt
      have hc2 := hcell' k hlt
      have hi1 : (k : Int) < (n : Int) := by omega
      clear hcell hcell'
      go_wp2
      go_quiet (fail)
      go_wp2
      go_roundw
      case rel => exact ⟨k + 1, _, by omega, by go_num, rfl⟩
      case measure => simp [intOf]; omega
    · go_wp2
      go_ret
      exact ⟨rfl, _, rfl⟩

end Go.Proofs.Ythmendcdfhlkkaa

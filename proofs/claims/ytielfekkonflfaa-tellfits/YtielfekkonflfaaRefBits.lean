/- Contracts of the document's Bytes, power, Pack, Bit. -/
import Derived.Test.YtielfekkonflfaaBitsPack
namespace Go.Proofs.Ytielfekkonflfaa
open Go.ChangeShapes Go.WideShapes Go.ChangeAt Go.RowKit
set_option linter.unusedVariables false

theorem refbytes_any (n : Int) (w : World) (h0 : -9223372036854775808 ≤ n) (h1 : n ≤ 9223372036854775807) : Calls Try.prog 79 #[.int .i64 n] w fun e w' => e = .returned (.int .i64 (nbI n)) ∧ w = w' := by
  by_cases h : n < 1
  · go_enter Try.func79, Try.ntmps79
    go_wp2
    go_ret
    exact ⟨ret_int (by unfold nbI; rw [if_pos h]), rfl⟩
  · go_enter Try.func79, Try.ntmps79
    go_wp2
    go_ret
    exact ⟨ret_int (by unfold nbI; rw [if_neg (by omega)]), rfl⟩
theorem refbytes_nat (n : Nat) (w : World) (h : n ≤ 100000) : Calls Try.prog 79 #[.int .i64 (n : Int)] w fun e w' => e = .returned (.int .i64 ((nb n : Nat) : Int)) ∧ w = w' := by
  have := refbytes_any (n : Int) w (by omega) (by omega)
  rwa [nbI_nat] at this

theorem pow_twice (j : Nat) (h : j < 7) : IntKind.u8.wrap ((2 : Int) ^ j * 2) = 2 ^ (j + 1) := by
  have h1 := pow_range (j + 1) (by omega)
  rw [← Int.pow_succ]
  exact IntWalk.u8_in _ (by omega)
theorem power_any (k : Nat) (w : World) (h : k < 8) : Calls Try.prog 84 #[.int .i64 (k : Int)] w fun e w' => e = .returned (.int .u8 (2 ^ k)) ∧ w = w' := by
  go_enter Try.func84, Try.ntmps84
  go_wp2
  go_loop [3, 4] (fun p i => ∃ j : Nat, j ≤ k ∧ i = .int .i64 (j : Int) ∧ p = .int .u8 (2 ^ j)) (fun _ i => k - (intOf i).toNat)
  case atStart => exact ⟨0, Nat.zero_le _, rfl, rfl⟩
  case round =>
    obtain ⟨j, hj, rfl, rfl⟩ := hrel
    by_cases hlt : j < k
    · have e := pow_twice j (by omega)
      have HE := Lib.hid e
      go_wp2
      go_round
      case rel => exact ⟨j + 1, by omega, by go_num, rfl⟩
      case measure => simp [intOf]; omega
    · obtain rfl : k = j := by omega
      go_wp2
      go_ret
      exact ⟨rfl, rfl⟩

theorem power_mod (k : Nat) (w : World) : Calls Try.prog 84 #[.int .i64 ((k : Int) % 8)] w fun e w' => e = .returned (.int .u8 (2 ^ (k % 8))) ∧ w = w' := power_any (k % 8) w (by omega)

theorem add_bit (x : Int) (h0 : 0 ≤ x) (h1 : x ≤ 255) (k : Nat) (hk : k < 8) (hb : tb x k = false) : IntKind.u8.wrap (x + 2 ^ k) = sb x k true := by
  have e : sb x k true = x + 2 ^ k := by simp [sb, hb]
  rw [← e]
  have := sb_range x h0 h1 k hk true
  exact IntWalk.u8_in _ (by omega)
theorem sub_bit (x : Int) (h0 : 0 ≤ x) (h1 : x ≤ 255) (k : Nat) (hk : k < 8) (hb : tb x k = true) : IntKind.u8.wrap (x - 2 ^ k) = sb x k false := by
  have e : sb x k false = x - 2 ^ k := by simp [sb, hb]
  rw [← e]
  have := sb_range x h0 h1 k hk false
  exact IntWalk.u8_in _ (by omega)

theorem bit_any (A : Option Addr) (n c : Nat) (zs : List Int) (i : Int) (w : World) (hr : Row .u8 w w.heap.size A n zs) (hx : Bytes8 zs) (h0 : -9223372036854775808 ≤ i) (h1 : i ≤ 9223372036854775807) (hn : n ≤ 100000) :
    Calls Try.prog 80 #[.slice A n c, .int .i64 i] w (Quiet (.bool (bitI zs i)) w) := by
  by_cases h : 0 ≤ i ∧ i / 8 < n
  · obtain ⟨k, rfl⟩ := Int.eq_ofNat_of_zero_le h.1
    have hk : k / 8 < n := by omega
    obtain ⟨b, off, rfl, hb, hcell⟩ := hr.2 (by omega)
    have hc := hcell (k / 8) hk
    have hi1 : (k : Int) / 8 < (n : Int) := h.2
    have hi0 : 0 ≤ (k : Int) / 8 := by omega
    have hi2 : ((k : Int) / 8).toNat = k / 8 := by omega
    have hb0 := hx.at_ (k / 8)
    have hp := pow_range (k % 8) (by omega)
    clear hcell h
    go_enter Try.func80, Try.ntmps80
    go_wp2
    go_quiet (first
      | (go_at_call 84; exact quiet_still (power_mod k _)))
    go_wp2
    go_ret
    refine ⟨ret_bool ?_, _, rfl⟩
    rw [bitI_nat, Int.tmod_eq_emod_of_nonneg (Int.ediv_nonneg hb0.1 (by omega))]
    unfold bitB tb
    rw [Bool.beq_eq_decide_eq]
  · have H := Lib.hid h
    have HL := Lib.hid hr.1
    by_cases hneg : i < 0
    · clear hr hx h
      go_enter Try.func80, Try.ntmps80
      go_wp2
      go_ret
      exact ⟨ret_bool (bitI_out zs n HL.out i H.out).symm, 0, rfl⟩
    · have hge : (n : Int) ≤ i / 8 := by omega
      clear hr hx h
      go_enter Try.func80, Try.ntmps80
      go_wp2
      go_ret
      exact ⟨ret_bool (bitI_out zs n HL.out i H.out).symm, 0, rfl⟩

end Go.Proofs.Ytielfekkonflfaa

/- Contracts of package bits: Bytes, mask, has, Get. -/
import Derived.Test.YtielfekkonflfaaByte
namespace Go.Proofs.Ytielfekkonflfaa
open Go.ChangeShapes Go.WideShapes Go.ChangeAt Go.RowKit
set_option linter.unusedVariables false

/-- The number of bytes, of any number. -/
def nbI (n : Int) : Int := if n < 1 then 0 else (n - 1) / 8 + 1
theorem nbI_nat (n : Nat) : nbI (n : Int) = ((nb n : Nat) : Int) := by
  unfold nbI nb
  split <;> omega

theorem bytes_any (n : Int) (w : World) (h0 : -9223372036854775808 ≤ n) (h1 : n ≤ 9223372036854775807) : Calls Try.prog 48 #[.int .i64 n] w fun e w' => e = .returned (.int .i64 (nbI n)) ∧ w = w' := by
  by_cases h : n < 1
  · go_enter Try.func48, Try.ntmps48
    go_wp2
    go_ret
    exact ⟨ret_int (by unfold nbI; rw [if_pos h]), rfl⟩
  · go_enter Try.func48, Try.ntmps48
    go_wp2
    go_ret
    exact ⟨ret_int (by unfold nbI; rw [if_neg (by omega)]), rfl⟩

theorem and7 (i : Nat) (h : i < 9223372036854775808) : bits .and .i64 (i : Int) 7 = ((i % 8 : Nat) : Int) := by
  have ea : (BitVec.ofInt 64 (i : Int)).toNat = i := by rw [BitVec.ofInt_natCast, BitVec.toNat_ofNat]; exact Nat.mod_eq_of_lt (by omega)
  show IntKind.i64.wrap ((BitVec.ofInt 64 (i : Int) &&& BitVec.ofInt 64 7).toNat : Int) = _
  rw [BitVec.toNat_and, ea]
  have e : i &&& (BitVec.ofInt 64 7).toNat = i % 8 := Nat.and_two_pow_sub_one_eq_mod i 3
  rw [e]
  exact IntWalk.i64_in _ (by omega)

theorem pow_byte (k : Nat) (h : k < 8) : (2 : Int) ^ k % 256 = 2 ^ k := bit_cases (p := fun k => (2 : Int) ^ k % 256 = 2 ^ k) (by decide) k h
theorem pow_range (k : Nat) (h : k < 8) : (1 : Int) ≤ 2 ^ k ∧ (2 : Int) ^ k ≤ 128 := bit_cases (p := fun k => (1 : Int) ≤ 2 ^ k ∧ (2 : Int) ^ k ≤ 128) (by decide) k h

theorem mask_any (i : Nat) (w : World) (h : i < 9223372036854775808) : Calls Try.prog 49 #[.int .i64 (i : Int)] w fun e w' => e = .returned (.int .u8 (2 ^ (i % 8))) ∧ w = w' := by
  have e := and7 i h
  go_enter Try.func49, Try.ntmps49
  go_wp2
  go_ret
  exact ⟨ret_int (pow_byte _ (by omega)), rfl⟩

theorem has_any (A : Option Addr) (n c : Nat) (i : Int) (w : World) (h0 : -9223372036854775808 ≤ i) (h1 : i ≤ 9223372036854775807) (hn : n ≤ 100000) :
    Calls Try.prog 83 #[.slice A n c, .int .i64 i] w fun e w' => e = .returned (.bool (decide (0 ≤ i ∧ i / 8 < n))) ∧ w = w' := by
  by_cases h : 0 ≤ i
  · go_enter Try.func83, Try.ntmps83
    go_wp2
    go_ret
    exact ⟨ret_bool (by simp [h]), rfl⟩
  · go_enter Try.func83, Try.ntmps83
    go_wp2
    go_ret
    exact ⟨ret_bool (by simp; omega), rfl⟩

theorem has_yes (A : Option Addr) (n c : Nat) (k : Nat) (w : World) (h1 : (k : Int) ≤ 9223372036854775807) (hn : n ≤ 100000) (h : k / 8 < n) :
    Calls Try.prog 83 #[.slice A n c, .int .i64 (k : Int)] w fun e w' => e = .returned (.bool true) ∧ w = w' :=
  (has_any A n c k w (by omega) h1 hn).mono fun e w' ⟨he, hw⟩ => ⟨he.trans (ret_bool (by simp only [decide_eq_true_eq]; omega)), hw⟩
theorem has_no (A : Option Addr) (n c : Nat) (i : Int) (w : World) (h0 : -9223372036854775808 ≤ i) (h1 : i ≤ 9223372036854775807) (hn : n ≤ 100000) (h : Hid (¬ (0 ≤ i ∧ i / 8 < n))) :
    Calls Try.prog 83 #[.slice A n c, .int .i64 i] w fun e w' => e = .returned (.bool false) ∧ w = w' :=
  (has_any A n c i w h0 h1 hn).mono fun e w' ⟨he, hw⟩ => ⟨he.trans (ret_bool (by simp only [decide_eq_false_iff_not]; exact h.out)), hw⟩

/-- Bit i of bytes, of any number i. -/
def bitI (zs : List Int) (i : Int) : Bool := decide (0 ≤ i) && bitB zs i.toNat

theorem bitI_out (zs : List Int) (n : Nat) (hl : zs.length = n) (i : Int) (h : ¬ (0 ≤ i ∧ i / 8 < n)) : bitI zs i = false := by
  unfold bitI
  by_cases h0 : 0 ≤ i
  · rw [bitB_out zs _ (by omega)]; simp
  · simp [h0]
theorem bitI_nat (zs : List Int) (k : Nat) : bitI zs (k : Int) = bitB zs k := by simp [bitI]
theorem ne_bit (x : Int) (b : Bool) (h : decide (x = 0) = !b) : (x != 0) = b := by
  by_cases e : x = 0
  · subst e; simp at h; simp [h]
  · simp [e] at h; simp [e, h]

theorem get_any (A : Option Addr) (n c : Nat) (zs : List Int) (i : Int) (w : World) (hr : Row .u8 w w.heap.size A n zs) (hx : Bytes8 zs) (h0 : -9223372036854775808 ≤ i) (h1 : i ≤ 9223372036854775807) (hn : n ≤ 100000) :
    Calls Try.prog 77 #[.slice A n c, .int .i64 i] w (Quiet (.bool (bitI zs i)) w) := by
  by_cases h : 0 ≤ i ∧ i / 8 < n
  · obtain ⟨k, rfl⟩ := Int.eq_ofNat_of_zero_le h.1
    have hk : k / 8 < n := by omega
    obtain ⟨b, off, rfl, hb, hcell⟩ := hr.2 (by omega)
    have hc := hcell (k / 8) hk
    have hi1 : (k : Int) / 8 < (n : Int) := h.2
    have hi0 : 0 ≤ (k : Int) / 8 := by omega
    have hi2 : ((k : Int) / 8).toNat = k / 8 := by omega
    have hb0 := hx.at_ (k / 8)
    have HA := Lib.hid (and_bit _ hb0.1 hb0.2 (k % 8) (by omega))
    clear hcell h
    go_enter Try.func77, Try.ntmps77
    go_wp2
    go_quiet (first
      | (go_at_call 83; exact quiet_still (has_yes _ n c k _ (by omega) hn (by omega)))
      | (go_at_call 49; exact quiet_still (mask_any k _ (by omega))))
    go_wp2
    go_ret
    exact ⟨ret_bool ((ne_bit _ _ HA.out).trans (bitI_nat zs k).symm), _, rfl⟩
  · have H := Lib.hid h
    clear h hx
    have HL := Lib.hid hr.1
    clear hr
    go_enter Try.func77, Try.ntmps77
    go_wp2
    go_quiet (first
      | (go_at_call 83; exact quiet_still (has_no _ n c i _ (by omega) (by omega) hn H)))
    go_wp2
    go_ret
    exact ⟨ret_bool (bitI_out zs n HL.out i H.out).symm, _, rfl⟩

end Go.Proofs.Ytielfekkonflfaa

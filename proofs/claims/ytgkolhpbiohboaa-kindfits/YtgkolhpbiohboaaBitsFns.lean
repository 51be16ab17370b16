/- Contracts of package bits: Bytes, mask, has, Get. -/
import Derived.Test.YtgkolhpbiohboaaByte
namespace Go.Proofs.Ytgkolhpbiohboaa
open Go.ChangeShapes Go.WideShapes Go.ChangeAt Go.RowKit
set_option linter.unusedVariables false

/-- The number of bytes, of any number. -/
def nbI (n : Int) : Int := if n < 1 then 0 else (n - 1) / 8 + 1
theorem nbI_nat (n : Nat) : nbI (n : Int) = ((nb n : Nat) : Int) := by
  unfold nbI nb
  split <;> omega

theorem bytes_any (n : Int) (w : World) (h0 : -9223372036854775808 ≤ n) (h1 : n ≤ 9223372036854775807) : Calls Try.prog 19 #[.int .i64 n] w fun e w' => e = .returned (.int .i64 (nbI n)) ∧ w = w' := by
  by_cases h : n < 1
  · go_enter Try.func19, Try.ntmps19
    go_wp2
    go_ret
    exact ⟨ret_int (by unfold nbI; rw [if_pos h]), rfl⟩
  · go_enter Try.func19, Try.ntmps19
    go_wp2
    go_ret
    exact ⟨ret_int (by unfold nbI; rw [if_neg (by omega)]), rfl⟩

theorem and7 (i : Nat) (h : i < 9223372036854775808) : bits .and .i64 (i : Int) 7 = ((i % 8 : Nat) : Int) := by
  have ea : (BitVec.ofInt 64 (i : Int)).toNat = i := by rw [BitVec.ofInt_natCast, BitVec.toNat_ofNat]; exact Nat.mod_eq_of_lt (by omega)
  show IntKind.i64.wrap ((BitVec.ofInt 64 (i : Int) &&& BitVec.ofInt 64 7).toNat : Int) = _
  rw [BitVec.toNat_and, ea]
  have e : i &&& (BitVec.ofInt 64 7).toNat = i % 8 := Nat.and_two_pow_sub_one_eq_mod i 3
  rw [e]
  exact IntWalk.i64_in _ (by omega)

theorem pow_byte (k : Nat) (h : k < 8) : (2 : Int) ^ k % 256 = 2 ^ k := bit_cases (p := fun k => (2 : Int) ^ k % 256 = 2 ^ k) (by decide) k h
theorem pow_range (k : Nat) (h : k < 8) : (1 : Int) ≤ 2 ^ k ∧ (2 : Int) ^ k ≤ 128 := bit_cases (p := fun k => (1 : Int) ≤ 2 ^ k ∧ (2 : Int) ^ k ≤ 128) (by decide) k h

/-- Bit i of bytes, of any number i. -/
def bitI (zs : List Int) (i : Int) : Bool := decide (0 ≤ i) && bitB zs i.toNat

theorem bitI_out (zs : List Int) (n : Nat) (hl : zs.length = n) (i : Int) (h : ¬ (0 ≤ i ∧ i / 8 < n)) : bitI zs i = false := by
  unfold bitI
  by_cases h0 : 0 ≤ i
  · rw [bitB_out zs _ (by omega)]; simp
  · simp [h0]
theorem bitI_nat (zs : List Int) (k : Nat) : bitI zs (k : Int) = bitB zs k := by simp [bitI]
theorem ne_bit (x : Int) (b : Bool) (h : decide (x = 0) = !b) : (x != 0) = b := by
  by_cases e : x = 0
  · subst e; simp at h; simp [h]
  · simp [e] at h; simp [e, h]

end Go.Proofs.Ytgkolhpbiohboaa

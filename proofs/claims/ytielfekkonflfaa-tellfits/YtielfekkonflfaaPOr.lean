/- Or of numbers is nought just if each is. No statement is proved here. -/
import Derived.Test.YtielfekkonflfaaPSmall
namespace Go.Proofs.Ytielfekkonflfaa
open Go.ChangeShapes Go.WideShapes Go.ChangeAt Go.RowKit
set_option linter.unusedVariables false
set_option linter.unusedSimpArgs false

/-- The numbers of a request are numbers of their types. -/
structure Wide (at_ n v an orr ra rn co ob : Int) : Prop where
  a0 : -9223372036854775808 ≤ at_
  a1 : at_ ≤ 9223372036854775807
  n0 : -9223372036854775808 ≤ n
  n1 : n ≤ 9223372036854775807
  v0 : 0 ≤ v
  v1 : v ≤ 65535
  x0 : 0 ≤ an
  x1 : an ≤ 65535
  o0 : 0 ≤ orr
  o1 : orr ≤ 65535
  r0 : -9223372036854775808 ≤ ra
  r1 : ra ≤ 9223372036854775807
  m0 : -9223372036854775808 ≤ rn
  m1 : rn ≤ 9223372036854775807
  c0 : -9223372036854775808 ≤ co
  c1 : co ≤ 9223372036854775807
  b0 : -9223372036854775808 ≤ ob
  b1 : ob ≤ 9223372036854775807

theorem bv_or_zero {n : Nat} (a b : BitVec n) : (a ||| b).toNat = 0 ↔ a.toNat = 0 ∧ b.toNat = 0 := by
  rw [BitVec.toNat_or]
  constructor
  · intro h
    have h1 := Nat.left_le_or (n := a.toNat) (m := b.toNat)
    have h2 := Nat.right_le_or (n := a.toNat) (m := b.toNat)
    omega
  · rintro ⟨h1, h2⟩
    rw [h1, h2]
    rfl
theorem wrap64_eq (n : Int) : IntKind.i64.wrap n = (n + 9223372036854775808) % 18446744073709551616 - 9223372036854775808 := by
  simp [IntKind.wrap, IntKind.bits, IntKind.signed]
  omega
theorem or64_bounds (a b : Int) : -9223372036854775808 ≤ bits .or .i64 a b ∧ bits .or .i64 a b ≤ 9223372036854775807 := by
  have h : bits .or .i64 a b = IntKind.i64.wrap ((BitVec.ofInt 64 a ||| BitVec.ofInt 64 b).toNat : Int) := rfl
  rw [h, wrap64_eq]
  omega
theorem or64_zero (a b : Int) (a0 : -9223372036854775808 ≤ a) (a1 : a ≤ 9223372036854775807) (b0 : -9223372036854775808 ≤ b) (b1 : b ≤ 9223372036854775807) : bits .or .i64 a b = 0 ↔ a = 0 ∧ b = 0 := by
  have h : bits .or .i64 a b = IntKind.i64.wrap ((BitVec.ofInt 64 a ||| BitVec.ofInt 64 b).toNat : Int) := rfl
  have hz := bv_or_zero (BitVec.ofInt 64 a) (BitVec.ofInt 64 b)
  have hl := (BitVec.ofInt 64 a ||| BitVec.ofInt 64 b).isLt
  rw [BitVec.toNat_ofInt, BitVec.toNat_ofInt] at hz
  rw [h, wrap64_eq]
  generalize (BitVec.ofInt 64 a ||| BitVec.ofInt 64 b).toNat = x at *
  simp only [show ((2 ^ 64 : Nat) : Int) = 18446744073709551616 by decide] at hz
  have hl' : x < 18446744073709551616 := hl
  omega
theorem or16_zero (a b : Int) (a0 : 0 ≤ a) (a1 : a ≤ 65535) (b0 : 0 ≤ b) (b1 : b ≤ 65535) : (bits .or .u16 a b = 0 ↔ a = 0 ∧ b = 0) ∧ 0 ≤ bits .or .u16 a b ∧ bits .or .u16 a b ≤ 65535 := by
  have h : bits .or .u16 a b = IntKind.u16.wrap ((BitVec.ofInt 16 a ||| BitVec.ofInt 16 b).toNat : Int) := rfl
  have hz := bv_or_zero (BitVec.ofInt 16 a) (BitVec.ofInt 16 b)
  have hl := (BitVec.ofInt 16 a ||| BitVec.ofInt 16 b).isLt
  rw [BitVec.toNat_ofInt, BitVec.toNat_ofInt] at hz
  rw [h, IntKind.wrap_u16]
  generalize (BitVec.ofInt 16 a ||| BitVec.ofInt 16 b).toNat = x at *
  simp only [show ((2 ^ 16 : Nat) : Int) = 65536 by decide] at hz
  have hl' : x < 65536 := hl
  omega
theorem or3 (v an orr : Int) (v0 : 0 ≤ v) (v1 : v ≤ 65535) (x0 : 0 ≤ an) (x1 : an ≤ 65535) (o0 : 0 ≤ orr) (o1 : orr ≤ 65535) : bits .or .u16 (bits .or .u16 v an) orr = 0 ↔ v = 0 ∧ an = 0 ∧ orr = 0 := by
  obtain ⟨h1, h2, h3⟩ := or16_zero v an v0 v1 x0 x1
  rw [(or16_zero _ orr h2 h3 o0 o1).1, h1, and_assoc]
theorem or6 (a n ra rn co ob : Int) (a0 : -9223372036854775808 ≤ a) (a1 : a ≤ 9223372036854775807) (n0 : -9223372036854775808 ≤ n) (n1 : n ≤ 9223372036854775807) (r0 : -9223372036854775808 ≤ ra) (r1 : ra ≤ 9223372036854775807) (m0 : -9223372036854775808 ≤ rn) (m1 : rn ≤ 9223372036854775807) (c0 : -9223372036854775808 ≤ co) (c1 : co ≤ 9223372036854775807) (b0 : -9223372036854775808 ≤ ob) (b1 : ob ≤ 9223372036854775807) :
    bits .or .i64 (bits .or .i64 (bits .or .i64 (bits .or .i64 (bits .or .i64 a n) ra) rn) co) ob = 0 ↔ a = 0 ∧ n = 0 ∧ ra = 0 ∧ rn = 0 ∧ co = 0 ∧ ob = 0 := by
  rw [or64_zero _ ob (or64_bounds _ _).1 (or64_bounds _ _).2 b0 b1, or64_zero _ co (or64_bounds _ _).1 (or64_bounds _ _).2 c0 c1, or64_zero _ rn (or64_bounds _ _).1 (or64_bounds _ _).2 m0 m1, or64_zero _ ra (or64_bounds _ _).1 (or64_bounds _ _).2 r0 r1, or64_zero _ n a0 a1 n0 n1]
  simp only [and_assoc]

end Go.Proofs.Ytielfekkonflfaa

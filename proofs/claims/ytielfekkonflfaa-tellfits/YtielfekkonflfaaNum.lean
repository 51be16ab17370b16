/- Plain arithmetic: words of bytes, numbers of words. -/
import Derived.WalkKit
import Derived.Laws.Bits64b
namespace Go.Proofs.Ytielfekkonflfaa

/-- The number that words make, the most significant one first. -/
def num : List Int → Int := List.foldl (fun a x => a * 65536 + x) 0

theorem num_snoc (l : List Int) (x : Int) : num (l ++ [x]) = num l * 65536 + x := by simp [num]

theorem num_bound : ∀ (n : Nat) (l : List Int), l.length = n → (∀ x ∈ l, 0 ≤ x ∧ x ≤ 65535) → 0 ≤ num l ∧ num l < 65536 ^ n := by
  intro n
  induction n with
  | zero => intro l hl _; obtain rfl := List.eq_nil_of_length_eq_zero hl; simp [num]
  | succ n ih =>
    intro l hl hx
    obtain ⟨l', x, rfl⟩ : ∃ l' x, l = l' ++ [x] := by
      have hne : l ≠ [] := by intro h; rw [h] at hl; simp at hl
      exact ⟨l.dropLast, l.getLast hne, (List.dropLast_concat_getLast hne).symm⟩
    have h1 := ih l' (by simpa using hl) (fun y hy => hx y (by simp [hy]))
    have h2 := hx x (by simp)
    rw [num_snoc, Int.pow_succ]
    omega

theorem num_take (l : List Int) (k : Nat) (h : k < l.length) : num (l.take (k + 1)) = num (l.take k) * 65536 + l.getD k 0 := by
  rw [List.take_succ_eq_append_getElem h, num_snoc]
  simp [h]

theorem or_nat (k x y : Nat) (h : y < 2 ^ k) : x * 2 ^ k ||| y = x * 2 ^ k + y := by
  have := Nat.two_pow_add_eq_or_of_lt h x
  rw [Nat.mul_comm] at this
  exact this.symm

theorem or64 (x y : Int) (hx : 0 ≤ x) (hx2 : x < 281474976710656) (hy : 0 ≤ y) (hy2 : y ≤ 65535) :
    bits .or .u64 (IntKind.u64.wrap (x * 65536)) (IntKind.u64.wrap y) = x * 65536 + y := by
  rw [IntWalk.u64_in _ (by omega), IntWalk.u64_in _ (by omega)]
  obtain ⟨a, rfl⟩ := Int.eq_ofNat_of_zero_le hx
  obtain ⟨b, rfl⟩ := Int.eq_ofNat_of_zero_le hy
  have h := bits_or_u64_nat (a * 65536) b (by omega) (by omega)
  have e := or_nat 16 a b (by omega)
  simp only [Nat.reducePow] at e
  rw [e] at h
  simpa using h

theorem bits_or_u16_nat (a b : Nat) (ha : a < 65536) (hb : b < 65536) : bits .or .u16 (a : Int) (b : Int) = ((a ||| b : Nat) : Int) := by
  have h : a ||| b < 2 ^ 16 := Nat.or_lt_two_pow (by omega) (by omega)
  have ea : (BitVec.ofInt 16 (a : Int)).toNat = a := by rw [BitVec.ofInt_natCast, BitVec.toNat_ofNat]; exact Nat.mod_eq_of_lt (by omega)
  have eb : (BitVec.ofInt 16 (b : Int)).toNat = b := by rw [BitVec.ofInt_natCast, BitVec.toNat_ofNat]; exact Nat.mod_eq_of_lt (by omega)
  show IntKind.u16.wrap ((BitVec.ofInt 16 (a : Int) ||| BitVec.ofInt 16 (b : Int)).toNat : Int) = _
  rw [BitVec.toNat_or, ea, eb]
  exact IntWalk.u16_in _ (by omega)

theorem or16 (x y : Int) (hx : 0 ≤ x) (hx2 : x ≤ 255) (hy : 0 ≤ y) (hy2 : y ≤ 255) : bits .or .u16 (x * 256) y = x * 256 + y := by
  obtain ⟨a, rfl⟩ := Int.eq_ofNat_of_zero_le hx
  obtain ⟨b, rfl⟩ := Int.eq_ofNat_of_zero_le hy
  have h := bits_or_u16_nat (a * 256) b (by omega) (by omega)
  have e := or_nat 8 a b (by omega)
  simp only [Nat.reducePow] at e
  rw [e] at h
  simpa using h

end Go.Proofs.Ytielfekkonflfaa

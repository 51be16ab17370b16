/- Contracts of Signed, Of, joins, place, Join and of the examples (awake). -/
import Derived.Test.YtielfekkonflfaaPut
import Derived.Test.YtielfekkonflfaaNum
namespace Go.Proofs.Ytielfekkonflfaa
open Go.RowKit
set_option linter.unusedVariables false

theorem info23 : (Try.prog.info? 25).map (fun i => (i.zero, i.size, i.bytes)) = some (some (.int .u16 0), 1, 2) := by kernel_rfl
theorem ret_int2 {k : IntKind} {a b : Int} {c : Bool} (h : a = b) : Ending.returned (.tuple #[.int k a, .bool c]) = .returned (.tuple #[.int k b, .bool c]) := by rw [h]

theorem wf_u16 {a : Int} (h : (Lit.int .u16 a).wf = true) : 0 ≤ a ∧ a ≤ 65535 := by
  have := bounds_u16 h
  omega

/-- A word as a signed number. -/
def sgn (v : Int) : Int := if v < 32768 then v else v - 65536

theorem sgn_lo (v : Int) (h : v < 32768) : sgn v = v := if_pos h
theorem sgn_hi (v : Int) (h : 32768 ≤ v) : sgn v = v - 65536 := if_neg (by omega)

/-- Each a word. -/
def Words (zs : List Int) : Prop := ∀ x ∈ zs, 0 ≤ x ∧ x ≤ 65535
theorem Words.at_ {zs : List Int} (h : Words zs) (k : Nat) : 0 ≤ zs[k]?.getD 0 ∧ zs[k]?.getD 0 ≤ 65535 := by
  rcases hk : zs[k]? with _ | z
  · simp
  · simpa using h z (List.mem_of_getElem? hk)
theorem Words.num_lt {zs : List Int} (h : Words zs) (k : Nat) (hk : k ≤ 3) : 0 ≤ num (zs.take k) ∧ num (zs.take k) < 281474976710656 := by
  have h1 := num_bound (zs.take k).length (zs.take k) rfl (fun x hx => h x (List.mem_of_mem_take hx))
  have hl : (zs.take k).length ≤ 3 := Nat.le_trans (List.length_take_le _ _) hk
  have hp : (65536 : Int) ^ (zs.take k).length ≤ 281474976710656 := by
    generalize (zs.take k).length = m at hl
    match m, hl with
    | 0, _ => decide
    | 1, _ => decide
    | 2, _ => decide
    | 3, _ => decide
  omega
theorem Words.step {zs : List Int} (h : Words zs) (k : Nat) (hk : k ≤ 3) (hl : k < zs.length) :
    bits .or .u64 (IntKind.u64.wrap (num (zs.take k) * 65536)) (IntKind.u64.wrap (zs[k]?.getD 0)) = num (zs.take (k + 1)) := by
  have h1 := h.num_lt k hk
  have h2 := h.at_ k
  rw [or64 _ _ h1.1 h1.2 h2.1 h2.2, num_take _ _ hl]
  rfl
theorem Words.reverse {zs : List Int} (h : Words zs) : Words zs.reverse := fun x hx => h x (by simpa using hx)
theorem rev_at (zs : List Int) (n k : Nat) (h : zs.length = n) (hk : k < n) : zs.getD (n - 1 - k) 0 = zs.reverse[k]?.getD 0 := by
  subst h
  rw [List.getElem?_reverse (by omega)]
  rfl

theorem sgn_example : sgn 65535 = -1 := by decide

end Go.Proofs.Ytielfekkonflfaa

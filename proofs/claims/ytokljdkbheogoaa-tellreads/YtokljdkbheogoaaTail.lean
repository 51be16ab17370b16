/- Rows from a place on; bits out of bytes of a known number; bytes with the highest bit. -/
import Derived.Test.YtokljdkbheogoaaJTellReads10
import Derived.Test.YtokljdkbheogoaaAskList2
namespace Go.Proofs.Ytokljdkbheogoaa
open Go.ChangeShapes Go.WideShapes Go.ChangeAt Go.RowKit
set_option linter.unusedVariables false
set_option linter.unusedSimpArgs false

theorem Row.tail {k : IntKind} {w : World} {B b off : Nat} {n l q : Nat} {zs : List Int} (h : Row k w B (some ⟨b, off, none⟩) n zs) (hn : n = l + q) : Row k w B (some ⟨b, off + l, none⟩) q (zs.drop l) := by
  subst hn
  refine ⟨by rw [List.length_drop, h.1]; omega, fun h0 => ?_⟩
  obtain ⟨b', off', e, hb, hc⟩ := h.2 (by omega)
  injection e with e
  injection e with e1 e2
  subst e1 e2
  refine ⟨b, off + l, rfl, hb, fun j hj => ?_⟩
  have := hc (l + j) (by omega)
  rw [Nat.add_assoc, this]
  simp [List.getD]
theorem Bytes8.drop {zs : List Int} (h : Bytes8 zs) (l : Nat) : Bytes8 (zs.drop l) := fun x hx => h x (List.mem_of_mem_drop hx)
theorem row_none {k : IntKind} {w : World} {B : Nat} {A : Option Addr} {l : Nat} {zs : List Int} (h : zs.length = l) : Row k w B A 0 (zs.drop l) := by
  rw [List.drop_of_length_le (by omega)]
  exact Row.nil _ _ _ _
theorem punpack_at (A : Option Addr) (m c k : Nat) (y : Int) (zs : List Int) (w : World) (hm : (m : Int) = ((nb k : Nat) : Int)) (hy : y = (k : Int)) (hr : Row .u8 w w.heap.size A m zs) (hx : Bytes8 zs) (hk : k ≤ 100000) :
    Calls Try.prog 71 #[.slice A m c, .int .i64 y] w fun e w' => e = .returned (.tuple #[.slice (some ⟨w.heap.size, 0, none⟩) k k, .bool true]) ∧ WholeV w' w.heap.size 4 ((unb zs k).map Value.bool) ∧ Below w.heap.size w w' := by
  obtain rfl : m = nb k := by omega
  subst hy
  exact unpack_yes A k c zs w hr hx hk
theorem punpack_own (A : Option Addr) (m c k : Nat) (y : Int) (zs : List Int) (w : World) (hm : m = nb k) (hy : y = (k : Int)) (hr : Row .u8 w w.heap.size A m zs) (hx : Bytes8 zs) (hk : k ≤ 100000) :
    Calls Try.prog 71 #[.slice A m c, .int .i64 y] w fun e w' => ∃ G g, e = .returned (.tuple #[.slice G k g, .bool true]) ∧ w'.ownsRow w.heap.size 4 1 (.slice G k g) k ((unb zs k).map Value.bool) ∧ Below w.heap.size w w' := by
  refine (punpack_at A m c k y zs w (by omega) hy hr hx hk).mono ?_
  rintro e w' ⟨rfl, ho, hb⟩
  exact ⟨_, _, rfl, own_of_whole ho (Nat.le_refl _) (by simp [unb_length]) hk, hb⟩
theorem andNot128 (x : Int) (h0 : 0 ≤ x) (h1 : x ≤ 255) : bits .andNot .u8 x 128 = x % 128 :=
  byte_cases (p := fun x => bits .andNot .u8 x 128 = x % 128) (by decide +kernel) x h0 h1
theorem and128 (x : Int) (h0 : 0 ≤ x) (h1 : x ≤ 255) : bits .and .u8 x 128 = x / 128 * 128 :=
  byte_cases (p := fun x => bits .and .u8 x 128 = x / 128 * 128) (by decide +kernel) x h0 h1
theorem or128 (x : Int) (h0 : 0 ≤ x) (h1 : x ≤ 255) : bits .or .u8 x 128 = x % 128 + 128 :=
  byte_cases (p := fun x => bits .or .u8 x 128 = x % 128 + 128) (by decide +kernel) x h0 h1

end Go.Proofs.Ytokljdkbheogoaa

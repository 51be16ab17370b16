/- An array of ints, indexed by value. No statement is proved here. -/
import Derived.Test.YtebpilfogdenjaaPairs
namespace Go.Proofs.Ytebpilfogdenjaa
open Go.ChangeShapes Go.WideShapes Go.ChangeAt Go.RowKit
set_option linter.unusedVariables false
set_option linter.unusedSimpArgs false

theorem run_index_ints (t : TypeId) (n : Nat) (cs : Array Value) (i : Int) (v : Value) (w : World) (ht : Try.prog.underlying t = some (.array n 3)) (h0 : 0 ≤ i) (h1 : i < (n : Int)) (hv : cs[i.toNat]? = some v) :
    (Instr.index t (.agg cs) (.int .i64 i)).run Try.prog w = .ok v w := by
  obtain ⟨i0, hi0, hz0, hz1, hz2⟩ := info_parts infoI
  have hp : Try.prog.plainKey 3 = true := by kernel_rfl
  have hpart := run_part_plain (P := Try.prog) w hp (xs := cs) (off := i.toNat * 1) (by rw [Nat.mul_one]; exact hv)
  simp [Instr.index, run_underlying ht, sizeOf, typeInfo, hi0, hz1, h0, h1, asIntOf]
  rw [Nat.mul_one] at hpart
  exact hpart

end Go.Proofs.Ytebpilfogdenjaa

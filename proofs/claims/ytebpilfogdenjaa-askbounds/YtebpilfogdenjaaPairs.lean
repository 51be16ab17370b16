/- Two arrays of two ints that hold the same are equal. No statement is proved here. -/
import Derived.Test.YtebpilfogdenjaaGen
import Derived.ChangeKeysEq
namespace Go.Proofs.Ytebpilfogdenjaa
open Go.ChangeShapes Go.WideShapes Go.ChangeAt Go.RowKit
set_option linter.unusedVariables false

theorem guard60 (x y : Operand) (u v : Array Value) (w : World) : (eqGuard .eql 57 x y (.agg u) (.agg v)).run Try.prog w = .ok () w := by
  have hq : Try.prog.eqGuardType Try.prog.depth 57 = false := by kernel_rfl
  simp [eqGuard, hq, go_sem]
theorem infoI : (Try.prog.info? 3).map (fun i => (i.zero, i.size, i.bytes)) = some (some (.int .i64 0), 1, 8) := by kernel_rfl
theorem eq60 (a b : Int) (w : World) : (binOp .eql 57 (.agg #[.int .i64 a, .int .i64 b]) (.agg #[.int .i64 a, .int .i64 b])).run Try.prog w = .ok (.bool true) w := by
  obtain ⟨i0, hi0, hz0, hz1, hz2⟩ := info_parts infoI
  have hu : Try.prog.underlying 57 = some (.array 2 3) := Try.underlying57
  have hc : Try.prog.cellsOf 3 = 1 := by kernel_rfl
  simp only [binOp]
  simp [Op.equal, Op.maxDepth, run_equalIn_array (P := Try.prog) w 9999 #[.int .i64 a, .int .i64 b] #[.int .i64 a, .int .i64 b] hu hi0, hc, List.range, List.range.loop, Op.eqItems]
  have hp : Try.prog.plainKey 3 = true := by kernel_rfl
  have p0 : ∀ w : World, (part 3 #[.int .i64 a, .int .i64 b] 0).run Try.prog w = .ok (.int .i64 a) w := fun w => run_part_plain w hp rfl
  have p1 : ∀ w : World, (part 3 #[.int .i64 a, .int .i64 b] 1).run Try.prog w = .ok (.int .i64 b) w := fun w => run_part_plain w hp rfl
  have he0 : ∀ (d : Nat) (x : Int) (w : World), (Op.equalIn (d + 1) 3 (.int .i64 x) (.int .i64 x)).run Try.prog w = .ok true w := by
    intro d x w
    simp [Op.equalIn, run_underlying Try.underlying3]
  have he : ∀ (x : Int) (w : World), (Op.equalIn 9999 3 (.int .i64 x) (.int .i64 x)).run Try.prog w = .ok true w := fun x w => he0 9998 x w
  simp [p0, p1, he]
end Go.Proofs.Ytebpilfogdenjaa

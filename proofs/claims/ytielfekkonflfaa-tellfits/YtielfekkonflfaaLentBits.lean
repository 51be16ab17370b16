/- Bools that are lent, whether they stay, whether two rows are alike: LentBits, StaysBits, SameBits. -/
import Derived.Test.YtielfekkonflfaaGen
namespace Go.Proofs.Ytielfekkonflfaa
open Go.ChangeShapes Go.WideShapes Go.ChangeAt Go.RowKit
set_option linter.unusedVariables false

theorem infoBool : (Try.prog.info? 4).map (fun i => (i.zero, i.size, i.bytes)) = some (some (.bool false), 1, 1) := by kernel_rfl
theorem make_bools (n : Nat) (hn : n ≤ 1000000) (W : World) :
    (Instr.makeSlice 23 (.int .i64 (n : Int)) (.int .i64 (n : Int))).run Try.prog W = .ok (.slice (some ⟨W.heap.size, 0, none⟩) n n) (W.alloc (.cells (List.replicate n (Value.bool false)).toArray 4)) :=
  make_any 23 4 (.bool false) 1 Try.underlying23 infoBool rfl n hn (by omega) W

/-- The row that is lent, when k marks have been laid. -/
def lentB (bs : List Bool) (k : Nat) : List Bool := bs ++ (List.replicate k true ++ List.replicate (3 - k) false)
theorem lentB_length (bs : List Bool) (k : Nat) (h : k ≤ 3) : (lentB bs k).length = bs.length + 3 := by simp [lentB]; omega
theorem lentB_set (bs : List Bool) (k : Nat) (h : k < 3) : (lentB bs k).set (bs.length + k) true = lentB bs (k + 1) := by
  unfold lentB
  match k, h with
  | 0, _ => simp [List.replicate]
  | 1, _ => simp [List.replicate]
  | 2, _ => simp [List.replicate]

theorem bools_at (bs : List Bool) (j : Nat) (h : j < bs.length) : (bs.map Value.bool)[j]? = some (.bool (bs.getD j false)) := by simp [h]

end Go.Proofs.Ytielfekkonflfaa

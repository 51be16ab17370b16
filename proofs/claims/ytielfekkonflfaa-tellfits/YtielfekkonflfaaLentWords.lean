/- Words that are lent, and whether they stay: LentWords, StaysWords. -/
import Derived.Test.YtielfekkonflfaaGen
namespace Go.Proofs.Ytielfekkonflfaa
open Go.ChangeShapes Go.WideShapes Go.ChangeAt Go.RowKit
set_option linter.unusedVariables false

theorem infoW : (Try.prog.info? 25).map (fun i => (i.zero, i.size, i.bytes)) = some (some (.int .u16 0), 1, 2) := by kernel_rfl
theorem make_words (n : Nat) (hn : n ≤ 1000000) (W : World) :
    (Instr.makeSlice 22 (.int .i64 (n : Int)) (.int .i64 (n : Int))).run Try.prog W = .ok (.slice (some ⟨W.heap.size, 0, none⟩) n n) (W.alloc (.cells ((List.replicate n (0 : Int)).map (Value.int .u16)).toArray 25)) := by
  have h := make_any (P := Try.prog) 22 25 (.int .u16 0) 2 Try.underlying22 infoW rfl n hn (by omega) W
  rw [h, List.map_replicate]

/-- The row that is lent, when k marks have been laid. -/
def lentRowW (zs : List Int) (k : Nat) : List Int := zs ++ (List.replicate k 42405 ++ List.replicate (3 - k) 0)
theorem lentRowW_length (zs : List Int) (k : Nat) (h : k ≤ 3) : (lentRowW zs k).length = zs.length + 3 := by simp [lentRowW]; omega
theorem lentRowW_set (zs : List Int) (k : Nat) (h : k < 3) : ((lentRowW zs k).map (Value.int .u16)).toArray.setIfInBounds (zs.length + k) (.int .u16 42405) = ((lentRowW zs (k + 1)).map (Value.int .u16)).toArray := by
  apply Array.toList_inj.1
  unfold lentRowW
  match k, h with
  | 0, _ => simp [List.replicate]
  | 1, _ => simp [List.replicate]
  | 2, _ => simp [List.replicate]

end Go.Proofs.Ytielfekkonflfaa

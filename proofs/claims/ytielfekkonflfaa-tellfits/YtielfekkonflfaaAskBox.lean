/- Boxes of twelve cells: read, written. -/
import Derived.Test.YtielfekkonflfaaAskList
namespace Go.Proofs.Ytielfekkonflfaa
open Go.ChangeShapes Go.WideShapes Go.ChangeAt Go.RowKit
set_option linter.unusedVariables false
set_option linter.unusedSimpArgs false

theorem cells12 {w : World} {g : Nat} {T : TypeId} {a0 a1 a2 a3 a4 a5 a6 a7 a8 a9 a10 a11 : Value} (h : WholeV w g T [a0, a1, a2, a3, a4, a5, a6, a7, a8, a9, a10, a11]) :
    w.cell? ⟨g, 0, none⟩ = some a0 ∧ w.cell? ⟨g, 1, none⟩ = some a1 ∧ w.cell? ⟨g, 2, none⟩ = some a2 ∧ w.cell? ⟨g, 3, none⟩ = some a3 ∧ w.cell? ⟨g, 4, none⟩ = some a4 ∧ w.cell? ⟨g, 5, none⟩ = some a5 ∧
    w.cell? ⟨g, 6, none⟩ = some a6 ∧ w.cell? ⟨g, 7, none⟩ = some a7 ∧ w.cell? ⟨g, 8, none⟩ = some a8 ∧ w.cell? ⟨g, 9, none⟩ = some a9 ∧ w.cell? ⟨g, 10, none⟩ = some a10 ∧ w.cell? ⟨g, 11, none⟩ = some a11 :=
  ⟨h.cell 0, h.cell 1, h.cell 2, h.cell 3, h.cell 4, h.cell 5, h.cell 6, h.cell 7, h.cell 8, h.cell 9, h.cell 10, h.cell 11⟩
theorem all12 {w : World} {g : Nat} {T : TypeId} {vs : List Value} (h : WholeV w g T vs) (b0 b1 b2 b3 b4 b5 b6 b7 b8 b9 b10 b11 : Value) (hl : vs.length = 12) :
    WholeV ((((((((((((w.setCell ⟨g, 0, none⟩ b0).setCell ⟨g, 1, none⟩ b1).setCell ⟨g, 2, none⟩ b2).setCell ⟨g, 3, none⟩ b3).setCell ⟨g, 4, none⟩ b4).setCell ⟨g, 5, none⟩ b5).setCell ⟨g, 6, none⟩ b6).setCell ⟨g, 7, none⟩ b7).setCell ⟨g, 8, none⟩ b8).setCell ⟨g, 9, none⟩ b9).setCell ⟨g, 10, none⟩ b10).setCell ⟨g, 11, none⟩ b11) g T [b0, b1, b2, b3, b4, b5, b6, b7, b8, b9, b10, b11] := by
  have h2 := (((((((((((h.set 0 b0).set 1 b1).set 2 b2).set 3 b3).set 4 b4).set 5 b5).set 6 b6).set 7 b7).set 8 b8).set 9 b9).set 10 b10).set 11 b11
  match vs, hl with
  | [c0, c1, c2, c3, c4, c5, c6, c7, c8, c9, c10, c11], _ => exact h2
theorem bel12 {B : Nat} {a w : World} (h : Below B a w) (b0 b1 b2 b3 b4 b5 b6 b7 b8 b9 b10 b11 : Value) : Below B a ((((((((((((w.setCell ⟨B, 0, none⟩ b0).setCell ⟨B, 1, none⟩ b1).setCell ⟨B, 2, none⟩ b2).setCell ⟨B, 3, none⟩ b3).setCell ⟨B, 4, none⟩ b4).setCell ⟨B, 5, none⟩ b5).setCell ⟨B, 6, none⟩ b6).setCell ⟨B, 7, none⟩ b7).setCell ⟨B, 8, none⟩ b8).setCell ⟨B, 9, none⟩ b9).setCell ⟨B, 10, none⟩ b10).setCell ⟨B, 11, none⟩ b11) :=
  ((((((((((((h.setCell (p := ⟨B, 0, none⟩) (Nat.le_refl _) b0).setCell (p := ⟨B, 1, none⟩) (Nat.le_refl _) b1).setCell (p := ⟨B, 2, none⟩) (Nat.le_refl _) b2).setCell (p := ⟨B, 3, none⟩) (Nat.le_refl _) b3).setCell (p := ⟨B, 4, none⟩) (Nat.le_refl _) b4).setCell (p := ⟨B, 5, none⟩) (Nat.le_refl _) b5).setCell (p := ⟨B, 6, none⟩) (Nat.le_refl _) b6).setCell (p := ⟨B, 7, none⟩) (Nat.le_refl _) b7).setCell (p := ⟨B, 8, none⟩) (Nat.le_refl _) b8).setCell (p := ⟨B, 9, none⟩) (Nat.le_refl _) b9).setCell (p := ⟨B, 10, none⟩) (Nat.le_refl _) b10).setCell (p := ⟨B, 11, none⟩) (Nat.le_refl _) b11)
/-- What stands ahead of the last statement: the two boxes, and what came before is kept. -/
def Ahead (w w3 : World) (T : TypeId) (vs : List Value) : Prop :=
  WholeV w3 (w.heap.size + 1) T vs ∧ (∃ us, us.length = 12 ∧ WholeV w3 w.heap.size T us) ∧ Below w.heap.size w w3

end Go.Proofs.Ytielfekkonflfaa

/- Package tell: boxes of fourteen cells, written. -/
import Derived.Test.YtielfekkonflfaaTSpec
namespace Go.Proofs.Ytielfekkonflfaa
open Go.ChangeShapes Go.WideShapes Go.ChangeAt Go.RowKit
set_option linter.unusedVariables false
set_option linter.unusedSimpArgs false

theorem all14 {w : World} {g : Nat} {T : TypeId} {vs : List Value} (h : WholeV w g T vs) (b0 b1 b2 b3 b4 b5 b6 b7 b8 b9 b10 b11 b12 b13 : Value) (hl : vs.length = 14) :
    WholeV (((((((((((((((w.setCell ⟨g, 0, none⟩ (b0)).setCell ⟨g, 1, none⟩ (b1)).setCell ⟨g, 2, none⟩ (b2)).setCell ⟨g, 3, none⟩ (b3)).setCell ⟨g, 4, none⟩ (b4)).setCell ⟨g, 5, none⟩ (b5)).setCell ⟨g, 6, none⟩ (b6)).setCell ⟨g, 7, none⟩ (b7)).setCell ⟨g, 8, none⟩ (b8)).setCell ⟨g, 9, none⟩ (b9)).setCell ⟨g, 10, none⟩ (b10)).setCell ⟨g, 11, none⟩ (b11)).setCell ⟨g, 12, none⟩ (b12)).setCell ⟨g, 13, none⟩ (b13))) g T [b0, b1, b2, b3, b4, b5, b6, b7, b8, b9, b10, b11, b12, b13] := by
  have h2 := ((((((((((((((h.set 0 b0).set 1 b1).set 2 b2).set 3 b3).set 4 b4).set 5 b5).set 6 b6).set 7 b7).set 8 b8).set 9 b9).set 10 b10).set 11 b11).set 12 b12).set 13 b13)
  match vs, hl with
  | [c0, c1, c2, c3, c4, c5, c6, c7, c8, c9, c10, c11, c12, c13], _ => exact h2
theorem bel14 {B : Nat} {a w : World} (h : Below B a w) (b0 b1 b2 b3 b4 b5 b6 b7 b8 b9 b10 b11 b12 b13 : Value) : Below B a (((((((((((((((w.setCell ⟨B, 0, none⟩ (b0)).setCell ⟨B, 1, none⟩ (b1)).setCell ⟨B, 2, none⟩ (b2)).setCell ⟨B, 3, none⟩ (b3)).setCell ⟨B, 4, none⟩ (b4)).setCell ⟨B, 5, none⟩ (b5)).setCell ⟨B, 6, none⟩ (b6)).setCell ⟨B, 7, none⟩ (b7)).setCell ⟨B, 8, none⟩ (b8)).setCell ⟨B, 9, none⟩ (b9)).setCell ⟨B, 10, none⟩ (b10)).setCell ⟨B, 11, none⟩ (b11)).setCell ⟨B, 12, none⟩ (b12)).setCell ⟨B, 13, none⟩ (b13))) :=
  ((((((((((((((h.setCell (p := ⟨B, 0, none⟩) (Nat.le_refl _) b0).setCell (p := ⟨B, 1, none⟩) (Nat.le_refl _) b1).setCell (p := ⟨B, 2, none⟩) (Nat.le_refl _) b2).setCell (p := ⟨B, 3, none⟩) (Nat.le_refl _) b3).setCell (p := ⟨B, 4, none⟩) (Nat.le_refl _) b4).setCell (p := ⟨B, 5, none⟩) (Nat.le_refl _) b5).setCell (p := ⟨B, 6, none⟩) (Nat.le_refl _) b6).setCell (p := ⟨B, 7, none⟩) (Nat.le_refl _) b7).setCell (p := ⟨B, 8, none⟩) (Nat.le_refl _) b8).setCell (p := ⟨B, 9, none⟩) (Nat.le_refl _) b9).setCell (p := ⟨B, 10, none⟩) (Nat.le_refl _) b10).setCell (p := ⟨B, 11, none⟩) (Nat.le_refl _) b11).setCell (p := ⟨B, 12, none⟩) (Nat.le_refl _) b12).setCell (p := ⟨B, 13, none⟩) (Nat.le_refl _) b13)

end Go.Proofs.Ytielfekkonflfaa

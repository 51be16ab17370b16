/- Boxes of twelve cells: written whole, not frozen. -/
import Derived.Test.YtebpilfogdenjaaAskBox
namespace Go.Proofs.Ytebpilfogdenjaa
open Go.ChangeShapes Go.WideShapes Go.ChangeAt Go.RowKit
set_option linter.unusedVariables false
set_option linter.unusedSimpArgs false

theorem frozen12 {w : World} {g : Nat} {T : TypeId} {vs : List Value} (h : WholeV w g T vs) :
    w.frozen? ⟨g, 0, none⟩ = false ∧ w.frozen? ⟨g, 1, none⟩ = false ∧ w.frozen? ⟨g, 2, none⟩ = false ∧ w.frozen? ⟨g, 3, none⟩ = false ∧ w.frozen? ⟨g, 4, none⟩ = false ∧ w.frozen? ⟨g, 5, none⟩ = false ∧ w.frozen? ⟨g, 6, none⟩ = false ∧ w.frozen? ⟨g, 7, none⟩ = false ∧ w.frozen? ⟨g, 8, none⟩ = false ∧ w.frozen? ⟨g, 9, none⟩ = false ∧ w.frozen? ⟨g, 10, none⟩ = false ∧ w.frozen? ⟨g, 11, none⟩ = false :=
  ⟨h.frozen 0, h.frozen 1, h.frozen 2, h.frozen 3, h.frozen 4, h.frozen 5, h.frozen 6, h.frozen 7, h.frozen 8, h.frozen 9, h.frozen 10, h.frozen 11⟩
theorem set12 {a w : World} {g : Nat} {T : TypeId} {vs : List Value} (h : WholeV w g T vs) (hb : Below g a w) (b0 b1 b2 b3 b4 b5 b6 b7 b8 b9 b10 b11 : Value) (hl : vs.length = 12) :
    ∃ x, ((((((((((((w.setCell ⟨g, 0, none⟩ b0).setCell ⟨g, 1, none⟩ b1).setCell ⟨g, 2, none⟩ b2).setCell ⟨g, 3, none⟩ b3).setCell ⟨g, 4, none⟩ b4).setCell ⟨g, 5, none⟩ b5).setCell ⟨g, 6, none⟩ b6).setCell ⟨g, 7, none⟩ b7).setCell ⟨g, 8, none⟩ b8).setCell ⟨g, 9, none⟩ b9).setCell ⟨g, 10, none⟩ b10).setCell ⟨g, 11, none⟩ b11) = x ∧ WholeV x g T [b0, b1, b2, b3, b4, b5, b6, b7, b8, b9, b10, b11] ∧ Below g a x :=
  ⟨_, rfl, all12 h b0 b1 b2 b3 b4 b5 b6 b7 b8 b9 b10 b11 hl, bel12 hb b0 b1 b2 b3 b4 b5 b6 b7 b8 b9 b10 b11⟩

end Go.Proofs.Ytebpilfogdenjaa

/- Package tell: Echo. -/
import Derived.Test.YtielfekkonflfaaJTellBack1
import Derived.Test.YtielfekkonflfaaPBox14
namespace Go.Proofs.Ytielfekkonflfaa
open Go.ChangeShapes Go.WideShapes Go.ChangeAt Go.RowKit
set_option linter.unusedVariables false
set_option linter.unusedSimpArgs false

theorem or4 (ra rn co ob : Int) (r0 : -9223372036854775808 ≤ ra) (r1 : ra ≤ 9223372036854775807) (m0 : -9223372036854775808 ≤ rn) (m1 : rn ≤ 9223372036854775807) (c0 : -9223372036854775808 ≤ co) (c1 : co ≤ 9223372036854775807) (b0 : -9223372036854775808 ≤ ob) (b1 : ob ≤ 9223372036854775807) :
    bits .or .i64 (bits .or .i64 (bits .or .i64 ra rn) co) ob = 0 ↔ ra = 0 ∧ rn = 0 ∧ co = 0 ∧ ob = 0 := by
  rw [or64_zero _ ob (or64_bounds _ _).1 (or64_bounds _ _).2 b0 b1, or64_zero _ co (or64_bounds _ _).1 (or64_bounds _ _).2 c0 c1, or64_zero _ rn r0 r1 m0 m1]
  simp only [and_assoc]

/-- What a reply that confirms does not repeat is as it must be. -/
def spentP (fn n : Int) (bl wl : Nat) (ra rn co ob : Int) : Prop :=
  ((fn = 15 ∧ (bl : Int) = n) ∨ (fn ≠ 15 ∧ bl = 0)) ∧ ((fn = 16 ∧ (wl : Int) = n) ∨ (fn ≠ 16 ∧ wl = 0)) ∧ ra = 0 ∧ rn = 0 ∧ co = 0 ∧ ob = 0
instance (fn n : Int) (bl wl : Nat) (ra rn co ob : Int) : Decidable (spentP fn n bl wl ra rn co ob) := by unfold spentP; infer_instance

set_option maxHeartbeats 4000000 in
/-- A request that writes, and is right, is confirmed by just such a reply. -/
theorem echo_right (fn at_ n v an orr : Int) (bl wl : Nat) (ra rn co ob : Int) : (tellP fn 0 0 0 at_ n v an orr 0 0 0 0 0 1 ∧ spentP fn n bl wl ra rn co ob) ↔ (rightP fn at_ n v an orr bl wl ra rn co ob ∧ (fn = 5 ∨ fn = 6 ∨ fn = 15 ∨ fn = 16 ∨ fn = 22)) := by
  rw [tell_nought]
  unfold rightP
  rcases kinds fn with rfl | rfl | rfl | rfl | rfl | rfl | rfl | rfl | rfl | rfl | rfl | h
  case inr.inr.inr.inr.inr.inr.inr.inr.inr.inr.inr =>
    rw [h.known]
    simp
  all_goals
    have hk1 : kMostW 15 = 1968 := rfl
    have hk2 : kMostW 16 = 123 := rfl
    unfold rangT restT spentP plainP fitsP
    constructor
    · rintro ⟨⟨hk, h1, h2, h3⟩, h4⟩
      refine ⟨⟨hk, ?_, ?_, ?_, ?_⟩, ?_⟩ <;> omega
    · rintro ⟨⟨hk, h1, h2, h3, h4⟩, h5⟩
      refine ⟨⟨hk, ?_, ?_, ?_⟩, ?_⟩ <;> omega
theorem fits_none (w : World) : Fits w none 0 0 true := fits_nil w none 0

theorem cells12e {w : World} {g : Nat} {T : TypeId} {a0 a1 a2 a3 a4 a5 a6 a7 a8 a9 a10 a11 : Value} (h : WholeV w g T [a0, a1, a2, a3, a4, a5, a6, a7, a8, a9, a10, a11]) :
    w.cell? ⟨g, 0, none⟩ = some a0 ∧ w.cell? ⟨g, 1, none⟩ = some a1 ∧ w.cell? ⟨g, 2, none⟩ = some a2 ∧ w.cell? ⟨g, 3, none⟩ = some a3 ∧ w.cell? ⟨g, 4, none⟩ = some a4 ∧ w.cell? ⟨g, 5, none⟩ = some a5 ∧
    w.cell? ⟨g, 6, none⟩ = some a6 ∧ w.cell? ⟨g, 7, none⟩ = some a7 ∧ w.cell? ⟨g, 8, none⟩ = some a8 ∧ w.cell? ⟨g, 9, none⟩ = some a9 ∧ w.cell? ⟨g, 10, none⟩ = some a10 ∧ w.cell? ⟨g, 11, none⟩ = some a11 :=
  ⟨h.cell 0, h.cell 1, h.cell 2, h.cell 3, h.cell 4, h.cell 5, h.cell 6, h.cell 7, h.cell 8, h.cell 9, h.cell 10, h.cell 11⟩

end Go.Proofs.Ytielfekkonflfaa

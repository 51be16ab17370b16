/- The document's Spans of a request; SameSpans of one span each, or none. -/
import Derived.Test.YtebpilfogdenjaaAskBytes
namespace Go.Proofs.Ytebpilfogdenjaa
open Go.ChangeShapes Go.WideShapes Go.ChangeAt Go.RowKit
set_option linter.unusedVariables false
set_option linter.unusedSimpArgs false

/-- A slice of spans that holds one, or none. -/
def OneRow (w : World) (A : Option Addr) (n : Nat) : Option (Int × Int × Int) → Prop
  | none => n = 0
  | some (t, f, u) => n = 1 ∧ ∃ g, A = some ⟨g, 0, none⟩ ∧ g < w.heap.size ∧ w.cell? ⟨g, 0, none⟩ = some (.int .i64 t) ∧ w.cell? ⟨g, 1, none⟩ = some (.int .i64 f) ∧ w.cell? ⟨g, 2, none⟩ = some (.int .i64 u)
theorem OneRow.below {w w' : World} {A : Option Addr} {n : Nat} {o : Option (Int × Int × Int)} (h : OneRow w A n o) (hb : Below w.heap.size w w') : OneRow w' A n o := by
  match o, h with
  | none, h => exact h
  | some (t, f, u), ⟨h1, g, h2, h3, h4, h5, h6⟩ =>
    exact ⟨h1, g, h2, Nat.lt_of_lt_of_le h3 hb.size, by rw [hb.cell h3]; exact h4, by rw [hb.cell h3]; exact h5, by rw [hb.cell h3]; exact h6⟩
theorem one_new (w W : World) (t f u : Int) (T : TypeId) (hb : Below (w.alloc (.cells #[.int .i64 t, .int .i64 f, .int .i64 u] T)).heap.size (w.alloc (.cells #[.int .i64 t, .int .i64 f, .int .i64 u] T)) W) : OneRow W (some ⟨w.heap.size, 0, none⟩) 1 (some (t, f, u)) := by
  have h := heap_alloc_new w (.cells #[.int .i64 t, .int .i64 f, .int .i64 u] T)
  have h0 : OneRow (w.alloc (.cells #[.int .i64 t, .int .i64 f, .int .i64 u] T)) (some ⟨w.heap.size, 0, none⟩) 1 (some (t, f, u)) := by
    refine ⟨rfl, _, rfl, by simp, ?_, ?_, ?_⟩ <;> (rw [cell_of_row _ _ _ _ _ _ h]; rfl)
  exact h0.below hb
theorem two_new (w : World) (t f u t' f' u' : Int) (T : TypeId) : OneRow ((w.alloc (.cells #[.int .i64 t, .int .i64 f, .int .i64 u] T)).alloc (.cells #[.int .i64 t', .int .i64 f', .int .i64 u'] T)).drew (some ⟨w.heap.size, 0, none⟩) 1 (some (t, f, u)) ∧
    OneRow ((w.alloc (.cells #[.int .i64 t, .int .i64 f, .int .i64 u] T)).alloc (.cells #[.int .i64 t', .int .i64 f', .int .i64 u'] T)).drew (some ⟨w.heap.size + 1, 0, none⟩) 1 (some (t', f', u')) := by
  refine ⟨one_new _ _ _ _ _ T (((Below.refl _ _).alloc (Nat.le_refl _) _).drew), ?_⟩
  have h := one_new (w.alloc (.cells #[.int .i64 t, .int .i64 f, .int .i64 u] T)) _ t' f' u' T (Below.refl _ _).drew
  rwa [show (w.alloc (.cells #[.int .i64 t, .int .i64 f, .int .i64 u] T)).heap.size = w.heap.size + 1 by simp] at h
/-- What a request reads, and what it writes. -/
def spR (fn at_ n ra rn : Int) : Option (Int × Int × Int) := if 1 ≤ fn ∧ fn ≤ 4 then some (kTab fn, at_, at_ + n) else if fn = 23 then some (kTab fn, ra, ra + rn) else none
def spW (fn at_ n : Int) : Option (Int × Int × Int) := if fn = 5 ∨ fn = 6 ∨ fn = 22 then some (kTab fn, at_, at_ + 1) else if fn = 15 ∨ fn = 16 ∨ fn = 23 then some (kTab fn, at_, at_ + n) else none

theorem table_lit (fn t : Int) (b : Bool) (w : World) (h1 : kTab fn = t) (h2 : kHas fn = b) :
    Calls Try.prog 21 #[.int .i64 fn] w fun e w' => e = .returned (.tuple #[.int .i64 t, .bool b]) ∧ w = w' := by
  subst h1 h2
  exact rtable_any fn w

end Go.Proofs.Ytebpilfogdenjaa

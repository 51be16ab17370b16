/- Contracts of head.Put and of the document's PutHead. -/
import Derived.Test.YthmendcdfhlkkaaHeadGet
namespace Go.Proofs.Ythmendcdfhlkkaa
open Go.ChangeShapes Go.WideShapes Go.ChangeAt Go.RowKit
set_option linter.unusedVariables false

/-- The seven bytes of a header. -/
def headOf (t l u : Int) : List Int := [t / 256, t % 256, 0, 0, l / 256, l % 256, u]
/-- May it be one? -/
def hFits (t l u : Int) : Prop := (0 ≤ t ∧ t ≤ 65535) ∧ (2 ≤ l ∧ l ≤ 254) ∧ (0 ≤ u ∧ u ≤ 255)
instance (t l u : Int) : Decidable (hFits t l u) := by unfold hFits; infer_instance

theorem own_whole {w : World} {g B : Nat} {t : TypeId} {zs : List Int} {n : Nat} (h : Whole .u8 w g t zs) (hb : B ≤ g) (hl : zs.length = n) (hm : n ≤ 100000) : w.ownsRow B t 1 (.slice (some ⟨g, 0, none⟩) n n) n (zs.map (Value.int .u8)) := by
  refine ⟨by simp [hl], .inr ⟨g, n, _, rfl, hb, h, Nat.le_refl _, by unfold maxLen; omega, by simp [hl], ?_⟩⟩
  exact List.take_of_length_le (by simp [hl])

theorem wputI (A : Option Addr) (n c : Nat) (zs : List Int) (v : Int) (w : World) (m : Nat) (ys : List Int) (hm : n + 2 = m) (hy : zs ++ [v / 256, v % 256] = ys) (hr : Row .u8 w w.heap.size A n zs) (hv0 : 0 ≤ v) (hv1 : v ≤ 65535) (hn : n ≤ 100000) :
    Calls Try.prog 102 #[.slice A n c, .int .u16 v] w fun e w' => e = .returned (.slice (some ⟨w.heap.size, 0, none⟩) m m) ∧ Whole .u8 w' w.heap.size 5 ys ∧ Row .u8 w' w'.heap.size (some ⟨w.heap.size, 0, none⟩) m ys ∧ Below w.heap.size w w' ∧ w.heap.size < w'.heap.size := by
  subst hm hy
  refine (wput_any A n c zs v w hr hv0 hv1 hn).mono fun e w' ⟨he, hw, hb⟩ => ⟨he, hw, ?_, hb, hw.lt⟩
  have := hw.row
  rw [List.length_append, hr.1] at this
  exact this

/-- The box of a header. -/
theorem box_cells (t l u : Int) (T : TypeId) (w W : World) (hb : Below (w.heap.size + 1) (w.alloc (.cells #[.int .i64 t, .int .i64 l, .int .i64 u] T)) W) :
    W.cell? ⟨w.heap.size, 0, none⟩ = some (.int .i64 t) ∧ W.cell? ⟨w.heap.size, 1, none⟩ = some (.int .i64 l) ∧ W.cell? ⟨w.heap.size, 2, none⟩ = some (.int .i64 u) ∧ Below (w.heap.size + 1) (w.alloc (.cells #[.int .i64 t, .int .i64 l, .int .i64 u] T)) W := by
  have h := heap_alloc_new w (.cells #[.int .i64 t, .int .i64 l, .int .i64 u] T)
  refine ⟨?_, ?_, ?_, hb⟩ <;> (rw [hb.cell (by simp), cell_of_row _ _ _ _ _ _ h]; rfl)

end Go.Proofs.Ythmendcdfhlkkaa

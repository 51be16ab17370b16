/- Replies: when one is right. What chapter 6 says, in numbers; or of five numbers; boxes of fourteen cells. -/
import Derived.Test.YtielfekkonflfaaPOr
namespace Go.Proofs.Ytielfekkonflfaa
open Go.ChangeShapes Go.WideShapes Go.ChangeAt Go.RowKit
set_option linter.unusedVariables false
set_option linter.unusedSimpArgs false

/-- The numbers of a reply are numbers of their types. -/
structure WideT (at_ n v an orr co le nx : Int) : Prop where
  a0 : -9223372036854775808 ≤ at_
  a1 : at_ ≤ 9223372036854775807
  n0 : -9223372036854775808 ≤ n
  n1 : n ≤ 9223372036854775807
  v0 : 0 ≤ v
  v1 : v ≤ 65535
  d0 : 0 ≤ an
  d1 : an ≤ 65535
  o0 : 0 ≤ orr
  o1 : orr ≤ 65535
  c0 : -9223372036854775808 ≤ co
  c1 : co ≤ 9223372036854775807
  l0 : -9223372036854775808 ≤ le
  l1 : le ≤ 9223372036854775807
  x0 : -9223372036854775808 ≤ nx
  x1 : nx ≤ 9223372036854775807

/-- A reply has nothing but a function and an exception. -/
def zeroT (bl wl : Nat) (at_ n v an orr co le : Int) (m : Nat) (nx : Int) (ol : Nat) : Prop := at_ = 0 ∧ n = 0 ∧ co = 0 ∧ le = 0 ∧ nx = 0 ∧ v = 0 ∧ an = 0 ∧ orr = 0 ∧ m = 0 ∧ bl = 0 ∧ wl = 0 ∧ ol = 0
instance (bl wl : Nat) (at_ n v an orr co le : Int) (m : Nat) (nx : Int) (ol : Nat) : Decidable (zeroT bl wl at_ n v an orr co le m nx ol) := by unfold zeroT; infer_instance
/-- All fields are zero that the table does not name for the function. -/
def restT (fn : Int) (bl wl : Nat) (at_ n v an orr co le : Int) (m : Nat) (nx : Int) (ol : Nat) : Prop :=
  (fn = 1 ∨ fn = 2 ∨ bl = 0) ∧ (fn = 3 ∨ fn = 4 ∨ fn = 23 ∨ wl = 0) ∧ (fn = 5 ∨ fn = 6 ∨ fn = 15 ∨ fn = 16 ∨ fn = 22 ∨ at_ = 0) ∧ (fn = 15 ∨ fn = 16 ∨ n = 0) ∧ (fn = 5 ∨ fn = 6 ∨ v = 0) ∧ (fn = 22 ∨ (an = 0 ∧ orr = 0)) ∧ (fn = 43 ∨ (co = 0 ∧ le = 0 ∧ m = 0 ∧ nx = 0 ∧ ol = 0))
instance (fn : Int) (bl wl : Nat) (at_ n v an orr co le : Int) (m : Nat) (nx : Int) (ol : Nat) : Decidable (restT fn bl wl at_ n v an orr co le m nx ol) := by unfold restT; infer_instance
/-- What is asked of the numbers of a function; fo is 1 just if the objects fit. -/
def rangT (fn : Int) (bl wl : Nat) (n v co le nx : Int) (fo : Nat) : Prop :=
  (¬ (fn = 1 ∨ fn = 2) ∨ (1 ≤ bl ∧ bl ≤ 2000)) ∧ (¬ (fn = 3 ∨ fn = 4 ∨ fn = 23) ∨ (1 ≤ wl ∧ wl ≤ 125)) ∧ (fn ≠ 5 ∨ v ≤ 1) ∧ (¬ (fn = 15 ∨ fn = 16) ∨ (1 ≤ n ∧ n ≤ kMostW fn)) ∧ (fn ≠ 43 ∨ ((1 ≤ co ∧ co ≤ 4) ∧ (0 ≤ le ∧ le ≤ 255) ∧ (0 ≤ nx ∧ nx ≤ 255) ∧ fo = 1))
instance (fn : Int) (bl wl : Nat) (n v co le nx : Int) (fo : Nat) : Decidable (rangT fn bl wl n v co le nx fo) := by unfold rangT; infer_instance
/-- A right reply. -/
def tellP (fn ex : Int) (bl wl : Nat) (at_ n v an orr co le : Int) (m : Nat) (nx : Int) (ol fo : Nat) : Prop :=
  (ex = 0 ∧ kKnown fn = true ∧ (0 ≤ at_ ∧ at_ ≤ 65535) ∧ rangT fn bl wl n v co le nx fo ∧ restT fn bl wl at_ n v an orr co le m nx ol) ∨ ((ex = 1 ∨ ex = 2 ∨ ex = 3 ∨ ex = 4 ∨ ex = 6) ∧ (0 ≤ fn ∧ fn ≤ 255) ∧ zeroT bl wl at_ n v an orr co le m nx ol)
instance (fn ex : Int) (bl wl : Nat) (at_ n v an orr co le : Int) (m : Nat) (nx : Int) (ol fo : Nat) : Decidable (tellP fn ex bl wl at_ n v an orr co le m nx ol fo) := by unfold tellP; infer_instance

/-- The objects at hand fit into a reply, or don't, whatever is laid behind them. -/
def Fits (w : World) (OA : Option Addr) (ol oc : Nat) (fo : Bool) : Prop :=
  ∀ W : World, Below w.heap.size w W → Calls Try.prog 60 #[.slice OA ol oc] W fun e w' => e = .returned (.bool fo) ∧ Below W.heap.size W w'
theorem Fits.on {w w1 : World} {OA : Option Addr} {ol oc : Nat} {fo : Bool} (h : Fits w OA ol oc fo) (hb : Below w.heap.size w w1) : Fits w1 OA ol oc fo := fun W hW => h W (hb.trans (hW.mono hb.size))
theorem fits_nil (w : World) (OA : Option Addr) (oc : Nat) : Fits w OA 0 oc true := by
  intro W hW
  go_enter Try.func60, Try.ntmps60
  go_wp2
  go_loopw [3, 8] (fun r i wr => i = .int .i64 0 ∧ wr = W) (fun _ _ _ => 0)
  case atStart => exact ⟨rfl, rfl⟩
  case round =>
    obtain ⟨rfl, rfl⟩ := hrel
    go_wp2
    go_ret
    exact ⟨rfl, Below.refl _ _⟩

theorem or5 (a n co le nx : Int) (a0 : -9223372036854775808 ≤ a) (a1 : a ≤ 9223372036854775807) (n0 : -9223372036854775808 ≤ n) (n1 : n ≤ 9223372036854775807) (c0 : -9223372036854775808 ≤ co) (c1 : co ≤ 9223372036854775807) (l0 : -9223372036854775808 ≤ le) (l1 : le ≤ 9223372036854775807) (x0 : -9223372036854775808 ≤ nx) (x1 : nx ≤ 9223372036854775807) :
    bits .or .i64 (bits .or .i64 (bits .or .i64 (bits .or .i64 a n) co) le) nx = 0 ↔ a = 0 ∧ n = 0 ∧ co = 0 ∧ le = 0 ∧ nx = 0 := by
  rw [or64_zero _ nx (or64_bounds _ _).1 (or64_bounds _ _).2 x0 x1, or64_zero _ le (or64_bounds _ _).1 (or64_bounds _ _).2 l0 l1, or64_zero _ co (or64_bounds _ _).1 (or64_bounds _ _).2 c0 c1, or64_zero _ n a0 a1 n0 n1]
  simp only [and_assoc]

theorem cells14 {w : World} {g : Nat} {T : TypeId} {a0 a1 a2 a3 a4 a5 a6 a7 a8 a9 a10 a11 a12 a13 : Value} (h : WholeV w g T [a0, a1, a2, a3, a4, a5, a6, a7, a8, a9, a10, a11, a12, a13]) :
    w.cell? ⟨g, 0, none⟩ = some a0 ∧ w.cell? ⟨g, 1, none⟩ = some a1 ∧ w.cell? ⟨g, 2, none⟩ = some a2 ∧ w.cell? ⟨g, 3, none⟩ = some a3 ∧ w.cell? ⟨g, 4, none⟩ = some a4 ∧ w.cell? ⟨g, 5, none⟩ = some a5 ∧
    w.cell? ⟨g, 6, none⟩ = some a6 ∧ w.cell? ⟨g, 7, none⟩ = some a7 ∧ w.cell? ⟨g, 8, none⟩ = some a8 ∧ w.cell? ⟨g, 9, none⟩ = some a9 ∧ w.cell? ⟨g, 10, none⟩ = some a10 ∧ w.cell? ⟨g, 11, none⟩ = some a11 ∧ w.cell? ⟨g, 12, none⟩ = some a12 ∧ w.cell? ⟨g, 13, none⟩ = some a13 :=
  ⟨h.cell 0, h.cell 1, h.cell 2, h.cell 3, h.cell 4, h.cell 5, h.cell 6, h.cell 7, h.cell 8, h.cell 9, h.cell 10, h.cell 11, h.cell 12, h.cell 13⟩
/-- A reply's box, kept. -/
theorem box14 (a0 a1 a2 a3 a4 a5 a6 a7 a8 a9 a10 a11 a12 a13 : Value) (T : TypeId) (w w' : World) (h : Below (w.heap.size + 1) (w.alloc (.cells #[a0, a1, a2, a3, a4, a5, a6, a7, a8, a9, a10, a11, a12, a13] T)) w') : WholeV w' w.heap.size T [a0, a1, a2, a3, a4, a5, a6, a7, a8, a9, a10, a11, a12, a13] := by
  have h1 : WholeV (w.alloc (.cells #[a0, a1, a2, a3, a4, a5, a6, a7, a8, a9, a10, a11, a12, a13] T)) w.heap.size T [a0, a1, a2, a3, a4, a5, a6, a7, a8, a9, a10, a11, a12, a13] := heap_alloc_new w _
  exact h1.below h (by omega)

end Go.Proofs.Ytielfekkonflfaa

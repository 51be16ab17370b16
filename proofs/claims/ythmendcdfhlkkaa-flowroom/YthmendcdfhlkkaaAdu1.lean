/- Package adu: Bytes. -/
import Derived.Test.YthmendcdfhlkkaaHeadRef
import Derived.Laws.CopyOwn
import Derived.Deep.RegionLaw
namespace Go.Proofs.Ythmendcdfhlkkaa
open Go.ChangeShapes Go.WideShapes Go.ChangeAt Go.RowKit
set_option linter.unusedVariables false
set_option linter.unusedSimpArgs false

theorem box3 (a0 a1 a2 : Value) (T : TypeId) (w w' : World) (h : Below (w.heap.size + 1) (w.alloc (.cells #[a0, a1, a2] T)) w') : WholeV w' w.heap.size T [a0, a1, a2] := by
  have h0 : WholeV (w.alloc (.cells #[a0, a1, a2] T)) w.heap.size T [a0, a1, a2] := heap_alloc_new w _
  exact (h.block w.heap.size (by omega)).trans h0
theorem below_alloc1 {w w' : World} {o : Obj} (h : Below (w.alloc o).heap.size (w.alloc o) w') : Below (w.heap.size + 1) (w.alloc o) w' := by
  rwa [show (w.alloc o).heap.size = w.heap.size + 1 by simp] at h
theorem below_alloc0 {w w' : World} {o : Obj} (h : Below (w.heap.size + 1) (w.alloc o) w') : Below w.heap.size w w' := ((Below.refl w.heap.size w).alloc (Nat.le_refl _) o).trans (h.mono (by omega))
theorem splice_behind (H cs : List Value) (k n : Nat) (z : Value) (hk : H.length = k) (hn : cs.length = n) : splice (H ++ List.replicate n z) k cs = H ++ cs := by
  unfold splice
  subst hk hn
  simp

end Go.Proofs.Ythmendcdfhlkkaa

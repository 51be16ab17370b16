/- Slices of integers as lists, blocks known whole, making a slice of bytes. No statement is proved here. -/
import Derived.Test.YtlnmdepaobocnaaRows
import Derived.WalkKit
import Derived.ProofKit
import Derived.OpenShut
import Derived.Below
import Derived.Laws.CopyOwn
import Derived.Laws.MakeOwn
import Derived.Deep.QuietTactic
import Derived.BigQuiet
import Derived.Lib.Hide
namespace Go.Proofs.Ytlnmdepaobocnaa
open Go.RowKit
set_option linter.unusedVariables false

/-- A slice value with address A and length n holds the integers zs; it lies below block B. -/
def Row (k : IntKind) (w : World) (B : Nat) (A : Option Addr) (n : Nat) (zs : List Int) : Prop :=
  zs.length = n ∧ (0 < n → ∃ b off, A = some ⟨b, off, none⟩ ∧ b < B ∧ ∀ j, j < n → w.cell? ⟨b, off + j, none⟩ = some (.int k (zs.getD j 0)))

theorem Row.nil (k : IntKind) (w : World) (B : Nat) (A : Option Addr) : Row k w B A 0 [] := ⟨rfl, fun h => absurd h (by omega)⟩
theorem Row.keep {k : IntKind} {w w' : World} {B : Nat} {A : Option Addr} {n : Nat} {zs : List Int} (h : Row k w B A n zs) (hk : ∀ p : Addr, p.block < B → w'.cell? p = w.cell? p) : Row k w' B A n zs :=
  ⟨h.1, fun hn => by
    obtain ⟨b, off, e, hb, hc⟩ := h.2 hn
    exact ⟨b, off, e, hb, fun j hj => (hk _ hb).trans (hc j hj)⟩⟩
theorem Row.below {k : IntKind} {w w' : World} {B : Nat} {A : Option Addr} {n : Nat} {zs : List Int} (h : Row k w B A n zs) (hb : Below B w w') : Row k w' B A n zs := h.keep fun _ hp => hb.cell hp
theorem Row.more {k : IntKind} {w : World} {B B' : Nat} {A : Option Addr} {n : Nat} {zs : List Int} (h : Row k w B A n zs) (hB : B ≤ B') : Row k w B' A n zs :=
  ⟨h.1, fun hn => by
    obtain ⟨b, off, e, hb, hc⟩ := h.2 hn
    exact ⟨b, off, e, by omega, hc⟩⟩

/-- Block g is just the integers zs of kind k, element type t, nothing of it frozen. -/
def Whole (k : IntKind) (w : World) (g : Nat) (t : TypeId) (zs : List Int) : Prop := w.heap[g]? = some (.cells (zs.map (Value.int k)).toArray t (0, 0))

theorem Whole.lt {k : IntKind} {w : World} {g : Nat} {t : TypeId} {zs : List Int} (h : Whole k w g t zs) : g < w.heap.size := by
  rcases Nat.lt_or_ge g w.heap.size with hlt | hge
  · exact hlt
  · unfold Whole at h; rw [Array.getElem?_eq_none hge] at h; cases h
theorem Whole.cell {k : IntKind} {w : World} {g : Nat} {t : TypeId} {zs : List Int} (h : Whole k w g t zs) (i : Nat) (hi : i < zs.length) : w.cell? ⟨g, i, none⟩ = some (.int k (zs.getD i 0)) := by
  unfold Whole at h
  rw [cell_of_row w g i _ t (0, 0) h]
  simp [hi]
theorem Whole.row {k : IntKind} {w : World} {g : Nat} {t : TypeId} {zs : List Int} (h : Whole k w g t zs) : Row k w w.heap.size (some ⟨g, 0, none⟩) zs.length zs :=
  ⟨rfl, fun _ => ⟨g, 0, rfl, h.lt, fun j hj => by rw [Nat.zero_add]; exact h.cell j hj⟩⟩
theorem Whole.below {k : IntKind} {w w' : World} {g B : Nat} {t : TypeId} {zs : List Int} (h : Whole k w g t zs) (hb : Below B w w') (hg : g < B) : Whole k w' g t zs := (hb.block g hg).trans h

theorem one_cells (k : IntKind) (zs : List Int) : ∀ u ∈ zs.map (Value.int k), u.oneCell' = true := ints_oneCell k zs
theorem frozen_of_row (w : World) (g i : Nat) (cs : Array Value) (t : TypeId) (h : w.heap[g]? = some (.cells cs t (0, 0))) : w.frozen? ⟨g, i, none⟩ = false := by
  simp [World.frozen?, h]
theorem heap_set (w : World) (g i : Nat) (cs : Array Value) (t : TypeId) (fr : Nat × Nat) (h : w.heap[g]? = some (.cells cs t fr)) (u : Value) : (w.setCell ⟨g, i, none⟩ u).heap[g]? = some (.cells (cs.setIfInBounds i u) t fr) := by
  simp [World.setCell, Array.getElem?_modify, h]

theorem info5 : (Try.prog.info? 5).map (fun i => (i.zero, i.size, i.bytes)) = some (some (.int .u8 0), 1, 1) := by kernel_rfl

end Go.Proofs.Ytlnmdepaobocnaa

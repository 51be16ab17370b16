/- Package iden: filled. -/
import Derived.Test.YtoljpdamalcjeaaIden4
namespace Go.Proofs.Ytoljpdamalcjeaa
open Go.ChangeShapes Go.WideShapes Go.ChangeAt Go.RowKit
set_option linter.unusedVariables false
set_option linter.unusedSimpArgs false

/-- How many objects, from the first on, have room in so many bytes. -/
def roomG : Nat → List Ob → Nat
  | _, [] => 0
  | r, o :: os => if (0 ≤ o.1 ∧ o.1 ≤ 255) ∧ 2 + o.2.size ≤ r then roomG (r - (2 + o.2.size)) os + 1 else 0
theorem roomG_le (r : Nat) (os : List Ob) : roomG r os ≤ os.length := by
  induction os generalizing r with
  | nil => simp [roomG]
  | cons o os ih =>
    unfold roomG
    split
    · have := ih (r - (2 + o.2.size)); simp; omega
    · simp
theorem roomG_in (r : Nat) (os : List Ob) (k : Nat) (hk : k < roomG r os) : (∀ o ∈ os.take (k + 1), 0 ≤ o.1 ∧ o.1 ≤ 255) ∧ used (os.take (k + 1)) ≤ r := by
  induction os generalizing r k with
  | nil => simp [roomG] at hk
  | cons o os ih =>
    unfold roomG at hk
    split at hk
    · rename_i ho
      rw [List.take_succ_cons, used_cons]
      cases k with
      | zero => refine ⟨fun x hx => ?_, by simp [used]; omega⟩; simp at hx; subst hx; exact ho.1
      | succ k =>
        have h := ih (r - (2 + o.2.size)) k (by omega)
        refine ⟨fun x hx => ?_, by omega⟩
        rcases List.mem_cons.1 hx with rfl | hx
        · exact ho.1
        · exact h.1 x hx
    · omega
theorem roomG_out (r : Nat) (os : List Ob) (hk : roomG r os < os.length) : ¬ ((∀ o ∈ os.take (roomG r os + 1), 0 ≤ o.1 ∧ o.1 ≤ 255) ∧ used (os.take (roomG r os + 1)) ≤ r) := by
  induction os generalizing r with
  | nil => simp at hk
  | cons o os ih =>
    intro h
    unfold roomG at hk h
    split at hk
    · rename_i ho
      rw [if_pos ho, List.take_succ_cons, used_cons] at h
      refine ih (r - (2 + o.2.size)) (by simpa using hk) ⟨fun x hx => h.1 x (List.mem_cons_of_mem _ hx), by omega⟩
    · rename_i ho
      rw [if_neg ho, List.take_succ_cons, used_cons] at h
      exact ho ⟨h.1 o (by simp), by have := h.2; omega⟩
def roomOf (os : List Ob) : Nat := roomG 246 os

theorem iroom_of (co le : Int) (A : Option Addr) (n c : Nat) (os : List Ob) (w : World) (c1 : 1 ≤ co) (c4 : co ≤ 4) (l0 : 0 ≤ le) (l1 : le ≤ 255) (hl : OL w w.heap.size A n os) (hn : n ≤ 100000) (hc : n ≤ c) (hz : ∀ o ∈ os, o.2.size ≤ 1000000) :
    Calls Try.prog 125 #[.agg #[.int .i64 43, .int .i64 0, .slice none 0 0, .slice none 0 0, .int .i64 0, .int .i64 0, .int .u16 0, .int .u16 0, .int .u16 0, .int .i64 co, .int .i64 le, .bool false, .int .i64 0, .slice none 0 0], .slice A n c] w fun e w' => e = .returned (.int .i64 (roomOf os : Int)) ∧ Below w.heap.size w w' := by
  have hlen := hl.len
  subst hlen
  exact iroom_any co le A os.length c os (roomOf os) w c1 c4 l0 l1 hl hn hc hz (roomG_le _ _) (fun k hk => roomG_in 246 os k hk) (fun hk h => roomG_out 246 os hk h)

/-- What a reply of 43 tells to be left. -/
def moreOf (os : List Ob) : Bool := decide (roomOf os < os.length)
def nextOf (os : List Ob) : Int := if roomOf os < os.length then (os.getD (roomOf os) ob0).1 else 0

end Go.Proofs.Ytoljpdamalcjeaa

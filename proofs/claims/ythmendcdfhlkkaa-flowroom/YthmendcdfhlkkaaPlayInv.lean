/- What stands at a round's head of RingPlays; blocks that are overwritten. -/
import Derived.Test.YthmendcdfhlkkaaRefPut
import Derived.Test.YthmendcdfhlkkaaLentBytes
namespace Go.Proofs.Ythmendcdfhlkkaa
open Go.ChangeShapes Go.WideShapes Go.ChangeAt Go.RowKit
set_option linter.unusedVariables false
set_option linter.unusedSimpArgs false

def PlayInv (w : World) (g p x M : Nat) (wr : World) : Prop := ∃ f qs base, RingAt wr g p M f qs ∧ RefAt wr x base M qs ∧ Below w.heap.size w wr

theorem PlayInv.mk {w w9 wr : World} {g p x M f base : Nat} {qs : List Int} (h : RingAt w9 g p M f qs) (k : RefAt w9 x base M qs) (hb : Below w.heap.size w w9) (ho : Below w9.heap.size w9 wr) : PlayInv w g p x M wr :=
  ⟨f, qs, base, h.below ho, k.below ho, hb.trans (ho.mono hb.size)⟩

/-- Block b has so many cells, and it alone has turned since w0. -/
def Marked (w0 : World) (b cap : Nat) (w : World) : Prop := ∃ vs, vs.length = cap ∧ WholeV w b 5 vs ∧ Off (fun k => k = b) w0 w
theorem Marked.start {w : World} {b cap : Nat} {zs : List Int} (hl : zs.length = cap) (h : Whole .u8 w b 5 zs) : Marked w b cap w := ⟨zs.map (Value.int .u8), by rw [List.length_map]; exact hl, h, Off.refl _ _⟩
theorem Marked.set {w0 w : World} {b cap : Nat} (h : Marked w0 b cap w) (j : Nat) : Marked w0 b cap (w.setCell ⟨b, j, none⟩ (.int .u8 238)) := by
  obtain ⟨vs, hl, hw, ho⟩ := h
  exact ⟨vs.set j (.int .u8 238), by rw [List.length_set]; exact hl, hw.set j _, ho.setCell (.inl rfl) _⟩

/-- A row of a call's own lies in no elder block. -/
theorem own_lo {w : World} {base n c : Nat} {A : Option Addr} {zs : List Int} (h : w.ownsRow base 5 1 (.slice A n c) n (zs.map (Value.int .u8))) : RowOff w (fun k => k < base) A n zs := by
  have hl : zs.length = n := by have := h.1; rw [List.length_map] at this; omega
  refine ⟨hl, fun h0 => ?_⟩
  obtain ⟨b, cap, he, hb, hr⟩ := row_of_own h h0
  injection he with he
  subst he
  have hr2 := RowV.ints (k := .u8) hr
  obtain ⟨b', off, e, hlt2, hc⟩ := hr2.2 h0
  injection e with e
  injection e with e1 e2
  subst e1 e2
  exact ⟨b, 0, rfl, hlt2, by omega, hc⟩
theorem RowOff.less {S T : Nat → Prop} {w : World} {A : Option Addr} {n : Nat} {zs : List Int} (h : RowOff w S A n zs) (hT : ∀ k, T k → S k) : RowOff w T A n zs :=
  ⟨h.1, fun h0 => by
    obtain ⟨b, off, e, hb, hs, hc⟩ := h.2 h0
    exact ⟨b, off, e, hb, fun ht => hs (hT b ht), hc⟩⟩

end Go.Proofs.Ythmendcdfhlkkaa

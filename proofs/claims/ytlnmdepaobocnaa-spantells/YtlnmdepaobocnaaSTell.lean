/- One number of a span of a list is written anew. No statement is proved here. -/
import Derived.Test.YtlnmdepaobocnaaSRun
import Derived.Deep.Cut
namespace Go.Proofs.Ytlnmdepaobocnaa
open Go.ChangeShapes Go.WideShapes Go.ChangeAt Go.RowKit
set_option linter.unusedVariables false
set_option linter.unusedSimpArgs false

/-- The span with its number i (its table, from where, up to where) turned to x. -/
def turnS (i : Nat) (x : Int) (s : Sp) : Sp := if i = 0 then (x, s.2.1, s.2.2) else if i = 1 then (s.1, x, s.2.2) else (s.1, s.2.1, x)
theorem sps_turn (l : List Sp) (k i : Nat) (hk : k < l.length) (hi : i < 3) (x : Int) : (sps l).set (3 * k + i) (.int .i64 x) = sps (l.set k (turnS i x (l.getD k sp0))) := by
  induction l generalizing k with
  | nil => simp at hk
  | cons s l ih =>
    cases k with
    | zero =>
      rcases (show i = 0 ∨ i = 1 ∨ i = 2 by omega) with rfl | rfl | rfl <;> rfl
    | succ k =>
      rw [sps_cons, show 3 * (k + 1) + i = 3 * k + i + 1 + 1 + 1 by omega, List.set_cons_succ, List.set_cons_succ, List.set_cons_succ, ih k (by simpa using hk), List.set_cons_succ, sps_cons, List.getD_cons_succ]
theorem SL.turn {w : World} {A : Option Addr} {n : Nat} {l : List Sp} (h : SL w A n l) {b off : Nat} (hA : A = some ⟨b, off, none⟩) (k i : Nat) (hk : k < n) (hi : i < 3) (x : Int) (p : Addr) (hp : p = ⟨b, off + k * 3 + i, none⟩) :
    SL (w.setCell p (.int .i64 x)) A n (l.set k (turnS i x (l.getD k sp0))) := by
  have hl := h.len
  subst hp
  refine ⟨by rw [sps_length, List.length_set]; omega, fun h0 => ?_⟩
  obtain ⟨b', off', hA', hb, hc⟩ := h.2 h0
  rw [hA] at hA'
  injection hA' with hA'
  injection hA' with e1 e2
  subst e1 e2
  refine ⟨b, off, hA, by simpa using hb, fun j hj => ?_⟩
  rw [← sps_turn l k i (by omega) hi x]
  have hj2 : j < (sps l).length := by rw [sps_length]; omega
  by_cases e : j = 3 * k + i
  · subst e
    rw [List.getElem?_set_self hj2]
    have e2 : (⟨b, off + (3 * k + i), none⟩ : Addr) = ⟨b, off + k * 3 + i, none⟩ := by congr 1; omega
    rw [e2]
    have h3 := hc _ hj
    rw [e2, List.getElem?_eq_getElem hj2] at h3
    exact World.cell?_setCell_same w _ _ h3
  · rw [List.getElem?_set_ne (Ne.symm e), ← hc j hj]
    refine World.cell?_setCell_other w _ _ _ fun h5 => e ?_
    injection h5 with _ h6
    omega
theorem SO.own {w : World} {base n c : Nat} {A : Option Addr} {l : List Sp} (h : SO w base (.slice A n c) n l) (k : Nat) (hk : k < n) :
    ∃ b off, A = some ⟨b, off, none⟩ ∧ base ≤ b ∧ (∀ i, w.frozen? ⟨b, i, none⟩ = false) ∧ w.cell? ⟨b, off + k * 3, none⟩ = some (.int .i64 (l.getD k sp0).1) ∧ w.cell? ⟨b, off + k * 3 + 1, none⟩ = some (.int .i64 (l.getD k sp0).2.1) ∧ w.cell? ⟨b, off + k * 3 + 2, none⟩ = some (.int .i64 (l.getD k sp0).2.2) := by
  obtain ⟨b, off, hA, hlt, c0, c1, c2⟩ := h.sl.at_ k hk
  refine ⟨b, off, hA, ?_, ?_, c0, c1, c2⟩
  · exact h.ge b (by subst hA; rcases h.2 with ⟨h1, _⟩ | ⟨g, cap, cur, hv, _⟩
                     · cases h1
                     · injection hv with h1
                       injection h1 with h1
                       injection h1 with h1
                       rw [h1]; rfl)
  · intro i
    rcases h.2 with ⟨_, h2⟩ | ⟨g, cap, cur, hv, _, hh, _⟩
    · omega
    · injection hv with h1
      rw [hA] at h1
      injection h1 with h1
      injection h1 with h1
      subst h1
      exact frozen_of_row w _ i cur _ hh
theorem stays_of (A : Option Addr) (n c g : Nat) (os : List Sp) (w : World) (hl : SL w A n os) (hw : WholeV w g 23 (sps (os ++ [spM, spM, spM]))) (hn : n ≤ 100000) :
    Calls Try.prog 15 #[.slice (some ⟨g, 0, none⟩) n (n + 3), .slice A n c] w fun e w' => e = .returned (.bool true) ∧ Below w.heap.size w w' :=
  (staysspans_any A n c g os w hl hw hn).mono fun e w' ⟨he, k, hk⟩ => ⟨he, by rw [hk]; exact below_drewN (Below.refl _ _) k⟩
theorem bool_of (p : Prop) : ∃ b : Bool, b = true ↔ p := by
  by_cases h : p
  · exact ⟨true, by simp [h]⟩
  · exact ⟨false, by simp [h]⟩

end Go.Proofs.Ytlnmdepaobocnaa

/- busbarlaw7.Objects: objects by numbers. -/
import Derived.Test.YtoljpdamalcjeaaObjs
import Derived.Test.YtoljpdamalcjeaaWithin
namespace Go.Proofs.Ytoljpdamalcjeaa
open Go.ChangeShapes Go.WideShapes Go.ChangeAt Go.RowKit
set_option linter.unusedVariables false
set_option linter.unusedSimpArgs false

/-- Objects such as may be: the first ones 0, 1, 2; rising; none too long. -/
structure goodL (os : List Ob) : Prop where
  l3 : 3 ≤ os.length
  l43 : os.length ≤ 43
  rise : ∀ k, k + 1 < os.length → (os.getD k ob0).1 < (os.getD (k + 1) ob0).1
  z0 : (os.getD 0 ob0).1 = 0
  z1 : (os.getD 1 ob0).1 = 1
  z2 : (os.getD 2 ob0).1 = 2
  byte : ∀ o ∈ os, 0 ≤ o.1 ∧ o.1 ≤ 255
  short : ∀ o ∈ os, o.2.size ≤ 244

theorem goodL.snoc {os : List Ob} (h : goodL os) (id : Int) (s : ByteArray) (hl : os.length < 43) (h0 : (os.getD (os.length - 1) ob0).1 < id) (h1 : id ≤ 255) (hs : s.size ≤ 244) (hid : 0 ≤ id) : goodL (os ++ [(id, s)]) := by
  have l3 := h.l3
  have g : ∀ k, k < os.length → (os ++ [(id, s)]).getD k ob0 = os.getD k ob0 := by
    intro k hk
    simp [List.getD_eq_getElem?_getD, List.getElem?_append_left hk]
  refine ⟨by simp; omega, by simp; omega, ?_, ?_, ?_, ?_, ?_, ?_⟩
  · intro k hk
    simp at hk
    rw [g k (by omega)]
    rcases Nat.lt_or_ge (k + 1) os.length with h2 | h2
    · rw [g _ h2]; exact h.rise k h2
    · have : k + 1 = os.length := by omega
      have hk2 : k = os.length - 1 := by omega
      rw [this, hk2]
      simpa [List.getD_eq_getElem?_getD] using h0
  · rw [g 0 (by omega)]; exact h.z0
  · rw [g 1 (by omega)]; exact h.z1
  · rw [g 2 (by omega)]; exact h.z2
  · intro o ho
    rcases List.mem_append.1 ho with h2 | h2
    · exact h.byte o h2
    · rw [List.mem_singleton.1 h2]; exact ⟨hid, h1⟩
  · intro o ho
    rcases List.mem_append.1 ho with h2 | h2
    · exact h.short o h2
    · rw [List.mem_singleton.1 h2]; exact hs
theorem goodL.set1 {os : List Ob} (h : goodL os) (s : ByteArray) (hs : s.size ≤ 244) : goodL (os.set 1 (1, s)) := by
  have l3 := h.l3
  have g : ∀ k, ((os.set 1 (1, s)).getD k ob0).1 = (os.getD k ob0).1 := by
    intro k
    by_cases hk : k = 1
    · subst hk
      rw [h.z1]
      simp [List.getD_eq_getElem?_getD, show 1 < os.length by omega]
    · simp [List.getD_eq_getElem?_getD, List.getElem?_set, Ne.symm hk]
  refine ⟨by simp; omega, by simp; exact h.l43, ?_, ?_, ?_, ?_, ?_, ?_⟩
  · intro k hk
    simp at hk
    rw [g, g]; exact h.rise k hk
  · rw [g]; exact h.z0
  · rw [g]; exact h.z1
  · rw [g]; exact h.z2
  · intro o ho
    rcases List.mem_or_eq_of_mem_set ho with h2 | h2
    · exact h.byte o h2
    · rw [h2]; exact ⟨(by decide : (0 : Int) ≤ 1), (by decide : (1 : Int) ≤ 255)⟩
  · intro o ho
    rcases List.mem_or_eq_of_mem_set ho with h2 | h2
    · exact h.short o h2
    · rw [h2]; exact hs
theorem obs_set (os : List Ob) (k : Nat) (s : ByteArray) : (obs os).set (2 * k + 1) (.string s) = obs (os.set k ((os.getD k ob0).1, s)) := by
  induction os generalizing k with
  | nil => simp [obs]
  | cons o os ih =>
    cases k with
    | zero => simp [obs_cons]
    | succ k =>
      rw [obs_cons, show 2 * (k + 1) + 1 = (2 * k + 1) + 1 + 1 by omega, List.set_cons_succ, List.set_cons_succ, ih, List.set_cons_succ, obs_cons]
      rfl
theorem size_strOfNums (zs : List Int) : (strOfNums zs).size = zs.length := by
  simp [strOfNums, ByteArray.size]
/-- A row of objects of the call's own, as a block that may be written. -/
theorem own2_open {w : World} {base : Nat} {e : TypeId} {v : Value} {n : Nat} {xs : List Value} (h : w.ownsRow base e 2 v n xs) (hn : 0 < n) : ∃ g cap, v = .slice (some ⟨g, 0, none⟩) n cap ∧ base ≤ g ∧ g < w.heap.size ∧ (∀ i, i < 2 * n → w.cell? ⟨g, i, none⟩ = xs[i]?) ∧ (∀ i, w.frozen? ⟨g, i, none⟩ = false) ∧
    ∀ i u, (w.setCell ⟨g, i, none⟩ u).ownsRow base e 2 v n (xs.set i u) := by
  rcases h.2 with ⟨_, h0⟩ | ⟨g, cap, cur, hv, hb, hh, hnc, hm, hcs, ht⟩
  · omega
  · refine ⟨g, cap, hv, hb, ?_, ?_, ?_, ?_⟩
    · rcases Nat.lt_or_ge g w.heap.size with hlt | hge
      · exact hlt
      · rw [Array.getElem?_eq_none hge] at hh; cases hh
    · intro i hi
      rw [cell_of_row w g i _ _ _ hh]
      have h1 : (List.take (n * 2) cur.toList)[i]? = xs[i]? := by rw [ht]
      rw [List.getElem?_take, if_pos (by omega)] at h1
      rw [← Array.getElem?_toList, h1]
    · intro i
      exact frozen_of_row w g i cur e hh
    · intro i u
      refine ⟨by rw [List.length_set]; exact h.1, .inr ⟨g, cap, cur.setIfInBounds i u, hv, hb, heap_set w g i cur e (0, 0) hh u, hnc, hm, by simpa using hcs, ?_⟩⟩
      rw [← ht]
      simp [List.take_set]

end Go.Proofs.Ytoljpdamalcjeaa

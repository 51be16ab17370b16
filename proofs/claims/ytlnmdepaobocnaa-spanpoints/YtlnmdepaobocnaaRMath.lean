/- Queues as lists: places in a circle. Plain mathematics; no statement is proved here. -/
import Derived.Test.YtlnmdepaobocnaaGen
import Derived.Laws.CopyOwn
namespace Go.Proofs.Ytlnmdepaobocnaa
open Go.RowKit
set_option linter.unusedVariables false
set_option linter.unusedSimpArgs false

/-- The place i behind f, of M places. -/
def plc (M f i : Nat) : Nat := if M = 0 then 0 else (f + i) % M
theorem plc_zero (f i : Nat) : plc 0 f i = 0 := rfl
theorem plc_lo {M f i : Nat} (h : f + i < M) : plc M f i = f + i := by
  unfold plc; rw [if_neg (by omega)]; exact Nat.mod_eq_of_lt h
theorem plc_hi {M f i : Nat} (h : M ≤ f + i) (h2 : f + i < 2 * M) : plc M f i = f + i - M := by
  unfold plc; rw [if_neg (by omega), Nat.mod_eq_sub_mod h]; exact Nat.mod_eq_of_lt (by omega)
theorem plc_lt {M f i : Nat} (h : 0 < M) : plc M f i < M := by
  unfold plc; rw [if_neg (by omega)]; exact Nat.mod_lt _ h
theorem plc_le {M f i : Nat} : plc M f i ≤ M := by
  rcases Nat.eq_zero_or_pos M with h | h
  · subst h; exact Nat.le_refl _
  · exact Nat.le_of_lt (plc_lt h)

/-- The places pl, as many as M, hold qs from place f on. -/
def Holds (pl : List Int) (M f : Nat) (qs : List Int) : Prop :=
  pl.length = M ∧ qs.length ≤ M ∧ f ≤ M ∧ (0 < M → f < M) ∧ ∀ j, j < qs.length → pl.getD (plc M f j) 0 = qs.getD j 0

theorem holds_new (M : Nat) : Holds (List.replicate M 0) M 0 [] := ⟨by simp, by simp, by omega, fun h => h, fun j hj => by simp at hj⟩

theorem getD_splice (L X : List Int) (o i : Nat) (h : o + X.length ≤ L.length) : (splice L o X).getD i 0 = if o ≤ i ∧ i < o + X.length then X.getD (i - o) 0 else L.getD i 0 := by
  unfold splice
  simp only [List.getD_eq_getElem?_getD]
  congr 1
  by_cases h1 : i < o
  · rw [if_neg (by omega), List.getElem?_append_left (by rw [List.length_take]; omega), List.getElem?_take, if_pos h1]
  · have hl : (L.take o).length = o := by rw [List.length_take]; omega
    rw [List.getElem?_append_right (by omega), hl]
    by_cases h2 : i < o + X.length
    · rw [if_pos ⟨by omega, h2⟩, List.getElem?_append_left (by omega)]
    · rw [if_neg (by omega), List.getElem?_append_right (by omega), List.getElem?_drop, show o + X.length + (i - o - X.length) = i by omega]

/-- What is looked at. -/
theorem holds_look {pl : List Int} {M f : Nat} {qs : List Int} (h : Holds pl M f qs) (n k : Nat) (hn : n ≤ qs.length) (hk : k = min n (M - f)) : (pl.drop f).take k ++ pl.take (n - k) = qs.take n := by
  obtain ⟨h1, h2, h3, h4, h5⟩ := h
  apply List.ext_getElem?
  intro i
  by_cases hi : i < n
  · have hM : f < M := h4 (by omega)
    have hv := h5 i (by omega)
    simp only [List.getD_eq_getElem?_getD] at hv
    rw [List.getElem?_take, if_pos hi]
    have hq : qs[i]? = some ((qs[i]?).getD 0) := by rw [List.getElem?_eq_getElem (by omega)]; rfl
    rw [hq, ← hv]
    by_cases hlo : i < k
    · rw [List.getElem?_append_left (by rw [List.length_take, List.length_drop]; omega), List.getElem?_take, if_pos hlo, List.getElem?_drop, plc_lo (by omega), List.getElem?_eq_getElem (by omega)]
      rfl
    · have hl : ((pl.drop f).take k).length = k := by rw [List.length_take, List.length_drop]; omega
      rw [List.getElem?_append_right (by omega), hl, List.getElem?_take, if_pos (by omega), plc_hi (by omega) (by omega), show f + i - M = i - k by omega, List.getElem?_eq_getElem (by omega)]
      rfl
  · rw [List.getElem?_eq_none (by simp only [List.length_append, List.length_take, List.length_drop]; omega), List.getElem?_eq_none (by rw [List.length_take]; omega)]

/-- What is taken is gone. -/
theorem holds_take {pl : List Int} {M f : Nat} {qs : List Int} (h : Holds pl M f qs) (n : Nat) (hn : n ≤ qs.length) : Holds pl M (plc M f n) (qs.drop n) := by
  obtain ⟨h1, h2, h3, h4, h5⟩ := h
  refine ⟨h1, by rw [List.length_drop]; omega, plc_le, fun h0 => plc_lt h0, fun j hj => ?_⟩
  rw [List.length_drop] at hj
  have hM : f < M := h4 (by omega)
  have hv := h5 (n + j) (by omega)
  have e : plc M (plc M f n) j = plc M f (n + j) := by
    unfold plc
    rw [if_neg (by omega), if_neg (by omega), if_neg (by omega), Nat.mod_add_mod, Nat.add_assoc]
  rw [e, hv]
  simp [List.getD_eq_getElem?_getD, List.getElem?_drop]

/-- What is put stands behind. -/
theorem holds_put {pl : List Int} {M f : Nat} {qs : List Int} (h : Holds pl M f qs) (zs : List Int) (n e k : Nat) (hz : zs.length = n) (hn : qs.length + n ≤ M) (he : e = plc M f qs.length) (hk : k = min n (M - e)) :
    Holds (splice (splice pl e (zs.take k)) 0 (zs.drop k)) M f (qs ++ zs) := by
  obtain ⟨h1, h2, h3, h4, h5⟩ := h
  have hl1 : (zs.take k).length = k := by rw [List.length_take]; omega
  have hl2 : (zs.drop k).length = n - k := by rw [List.length_drop]; omega
  have heM : e ≤ M := by rw [he]; exact plc_le
  have hs1 : (splice pl e (zs.take k)).length = M := by rw [length_splice _ _ _ (by rw [hl1]; omega), h1]
  refine ⟨by rw [length_splice _ _ _ (by rw [hl2, hs1]; omega), hs1], by rw [List.length_append]; omega, h3, h4, fun j hj => ?_⟩
  rw [List.length_append] at hj
  have hM : f < M := h4 (by omega)
  have hz1 : ∀ i, i < k → (zs.take k).getD i 0 = zs.getD i 0 := fun i hi => by simp [List.getD_eq_getElem?_getD, List.getElem?_take, hi]
  have hz2 : ∀ i, (zs.drop k).getD i 0 = zs.getD (k + i) 0 := fun i => by simp [List.getD_eq_getElem?_getD, List.getElem?_drop]
  rw [getD_splice _ _ _ _ (by rw [hl2, hs1]; omega), hl2, getD_splice _ _ _ _ (by rw [hl1]; omega), hl1]
  have hev : (f + qs.length < M ∧ e = f + qs.length) ∨ (M ≤ f + qs.length ∧ e = f + qs.length - M) := by
    by_cases hc : f + qs.length < M
    · exact .inl ⟨hc, by rw [he, plc_lo hc]⟩
    · exact .inr ⟨by omega, by rw [he, plc_hi (by omega) (by omega)]⟩
  by_cases hj1 : j < qs.length
  · have hv := h5 j hj1
    have hp : (f + j < M ∧ plc M f j = f + j) ∨ (M ≤ f + j ∧ plc M f j = f + j - M) := by
      by_cases hc : f + j < M
      · exact .inl ⟨hc, plc_lo hc⟩
      · exact .inr ⟨by omega, plc_hi (by omega) (by omega)⟩
    rw [if_neg (by omega), if_neg (by omega), hv]
    simp [List.getD_eq_getElem?_getD, List.getElem?_append_left hj1]
  · have hq : (qs ++ zs).getD j 0 = zs.getD (j - qs.length) 0 := by
      simp [List.getD_eq_getElem?_getD, List.getElem?_append_right (show qs.length ≤ j by omega)]
    have hp : (f + j < M ∧ plc M f j = f + j) ∨ (M ≤ f + j ∧ plc M f j = f + j - M) := by
      by_cases hc : f + j < M
      · exact .inl ⟨hc, plc_lo hc⟩
      · exact .inr ⟨by omega, plc_hi (by omega) (by omega)⟩
    rw [hq]
    by_cases hlo : j - qs.length < k
    · rw [if_neg (by omega), if_pos (by omega), hz1 _ (by omega)]
      congr 1
      omega
    · rw [if_pos (by omega), hz2]
      congr 1
      omega

end Go.Proofs.Ytlnmdepaobocnaa

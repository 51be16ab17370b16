/- A desk's places, counted; the first Free one. No statement is proved here. -/
import Derived.Test.YtokljdkbheogoaaDAwake
import Derived.Test.YtokljdkbheogoaaDigitBy
namespace Go.Proofs.Ytokljdkbheogoaa
open Go.ChangeShapes Go.WideShapes Go.ChangeAt Go.RowKit
set_option linter.unusedVariables false
set_option linter.unusedSimpArgs false

theorem set_same {st : List Int} {k : Nat} (v : Int) (h : k < st.length) : (st.set k v).getD k 0 = v := by
  rw [List.getD_eq_getElem?_getD, List.getElem?_set_self h]; rfl
theorem set_other {st : List Int} {k j : Nat} (v : Int) (h : k ≠ j) : (st.set k v).getD j 0 = st.getD j 0 := by
  rw [List.getD_eq_getElem?_getD, List.getElem?_set_ne h, ← List.getD_eq_getElem?_getD]
theorem first_free (st : List Int) : ∀ M : Nat, ∃ k, k ≤ M ∧ (∀ j, j < k → st.getD j 0 ≠ 0) ∧ (k < M → st.getD k 0 = 0)
  | 0 => ⟨0, Nat.le_refl 0, fun j h => by omega, fun h => by omega⟩
  | M + 1 => by
    obtain ⟨k, hk, hb, h0⟩ := first_free st M
    rcases Nat.lt_or_ge k M with h | h
    · exact ⟨k, by omega, hb, fun _ => h0 h⟩
    · obtain rfl : k = M := by omega
      by_cases hz : st.getD k 0 = 0
      · exact ⟨k, by omega, hb, fun _ => hz⟩
      · exact ⟨k + 1, by omega, fun j hj => by
          rcases Nat.lt_or_ge j k with h2 | h2
          · exact hb j h2
          · obtain rfl : j = k := by omega
            exact hz, fun h2 => by omega⟩
theorem nz_set (st : List Int) (k : Nat) (v : Int) (h : k < st.length) : nz (st.set k v) + (if st.getD k 0 != 0 then 1 else 0) = nz st + (if v != 0 then 1 else 0) := by
  unfold nz
  have hg : st.getD k 0 = st[k] := by rw [List.getD_eq_getElem?_getD, List.getElem?_eq_getElem h]; rfl
  rw [List.countP_set h, hg]
  have : (if st[k] != 0 then 1 else 0) ≤ st.countP (· != 0) := by
    split
    · exact List.countP_pos_iff.2 ⟨st[k], List.getElem_mem h, by assumption⟩
    · omega
  omega
theorem nz_most (st : List Int) (M : Nat) (ht : ∀ j, M ≤ j → st.getD j 0 = 0) : nz st ≤ M := by
  rw [nz_all st M ht]; exact nz_le st M
theorem nz_full (st : List Int) : ∀ M : Nat, M ≤ st.length → (∀ j, j < M → st.getD j 0 ≠ 0) → nz (st.take M) = M
  | 0, _, _ => rfl
  | M + 1, hl, h => by
    rw [nz_take st M (by omega), nz_full st M (by omega) (fun j hj => h j (by omega)), if_pos (by have := h M (by omega); simpa using this)]
theorem nz_room {st : List Int} {M k : Nat} (hl : M ≤ st.length) (ht : ∀ j, M ≤ j → st.getD j 0 = 0) (hk : k < M) (h0 : st.getD k 0 = 0) : nz st < M := by
  have h1 := nz_set st k 1 (by omega)
  rw [h0] at h1
  have h2 := nz_most (st.set k 1) M (tail_set 1 ht hk)
  simp at h1
  omega
theorem nz_some {st : List Int} {k : Nat} (hl : k < st.length) (h0 : st.getD k 0 ≠ 0) : 1 ≤ nz st := by
  have h1 := nz_set st k 0 hl
  rw [if_pos (by simpa using h0)] at h1
  simp at h1
  omega
theorem dst_in {M : Nat} {st : List Int} {k : Nat} (h : dSt M st (k : Int) ≠ 0) : k < M := by
  unfold dSt at h
  split at h
  · exact absurd rfl h
  · omega

end Go.Proofs.Ytokljdkbheogoaa

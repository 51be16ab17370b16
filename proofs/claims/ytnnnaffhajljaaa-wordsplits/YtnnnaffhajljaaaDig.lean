/- Plain arithmetic: the words of a number. -/
import Derived.Test.YtnnnaffhajljaaaNum
namespace Go.Proofs.Ytnnnaffhajljaaa

/-- The place of the word of rank i. -/
def pl (l : Bool) (n i : Nat) : Nat := if l then n - 1 - i else i
theorem pl_lt (l : Bool) (n i : Nat) (h : i < n) : pl l n i < n := by unfold pl; split <;> omega
theorem pl_pl (l : Bool) (n i : Nat) (h : i < n) : pl l n (pl l n i) = i := by unfold pl; split <;> omega

/-- The word of rank i of a number of n words. -/
def wd (v : Int) (n i : Nat) : Int := v / 2 ^ (16 * (n - 1 - i)) % 65536
/-- Its n words in the order l. -/
def wds (v : Int) (n : Nat) (l : Bool) : List Int := (List.range n).map fun j => wd v n (pl l n j)

theorem wds_length (v : Int) (n : Nat) (l : Bool) : (wds v n l).length = n := by simp [wds]
theorem wds_words (v : Int) (n : Nat) (l : Bool) : ∀ x ∈ wds v n l, 0 ≤ x ∧ x ≤ 65535 := by
  intro x hx
  simp only [wds, List.mem_map] at hx
  obtain ⟨j, _, rfl⟩ := hx
  unfold wd
  omega
theorem wds_reverse (v : Int) (n : Nat) : (wds v n true).reverse = wds v n false := by
  apply List.ext_getElem
  · simp [wds_length]
  · intro i h1 h2
    have h2 := h2
    rw [wds_length] at h2
    simp [wds, pl]
    congr 1
    omega

theorem ext_wds (v : Int) (n : Nat) (l : Bool) (cur : List Int) (hl : cur.length = n) (h : ∀ i, i < n → cur.getD (pl l n i) 0 = wd v n i) : cur = wds v n l := by
  apply List.ext_getElem
  · rw [hl, wds_length]
  · intro j h1 h2
    have hj : j < n := by omega
    have := h (pl l n j) (pl_lt l n j hj)
    rw [pl_pl l n j hj] at this
    simp only [List.getD, List.getElem?_eq_getElem h1, Option.getD_some] at this
    rw [this]
    simp [wds]

theorem div_step (v : Int) (m : Nat) : v / 2 ^ (16 * (m + 1)) = v / 2 ^ (16 * m) / 65536 := by
  have e : (2 : Int) ^ (16 * (m + 1)) = 2 ^ (16 * m) * 65536 := by
    rw [Nat.mul_add, Int.pow_add]
    rfl
  rw [e, Int.ediv_ediv_of_nonneg (by exact Int.le_of_lt (Int.pow_pos (by decide)))]

theorem num_wds_take (v : Int) (n : Nat) (hf : v / 2 ^ (16 * n) = 0) : ∀ j, j ≤ n → num ((wds v n false).take j) = v / 2 ^ (16 * (n - j)) := by
  intro j
  induction j with
  | zero => intro _; simp [num, hf]
  | succ j ih =>
    intro hj
    rw [num_take _ _ (by rw [wds_length]; omega), ih (by omega)]
    have e1 : n - j = (n - (j + 1)) + 1 := by omega
    have e2 : (wds v n false).getD j 0 = v / 2 ^ (16 * (n - (j + 1))) % 65536 := by
      have hlt : j < n := by omega
      have e3 : n - 1 - j = n - (j + 1) := by omega
      simp [wds, wd, pl, hlt, e3]
    rw [e2, e1, div_step]
    omega

theorem num_wds (v : Int) (n : Nat) (hf : v / 2 ^ (16 * n) = 0) : num (wds v n false) = v := by
  have h := num_wds_take v n hf n (Nat.le_refl _)
  rw [List.take_of_length_le (by rw [wds_length]; exact Nat.le_refl _)] at h
  simpa using h

theorem num_div (n : Nat) : ∀ (zs : List Int), zs.length = n → (∀ x ∈ zs, 0 ≤ x ∧ x ≤ 65535) → ∀ m, m ≤ n → num zs / 2 ^ (16 * m) = num (zs.take (n - m)) := by
  intro zs hl hx m
  induction m with
  | zero => intro _; simp [List.take_of_length_le (Nat.le_of_eq hl)]
  | succ m ih =>
    intro hm
    rw [div_step, ih (by omega)]
    have e : n - m = (n - (m + 1)) + 1 := by omega
    rw [e, num_take _ _ (by omega)]
    have hb : 0 ≤ zs.getD (n - (m + 1)) 0 ∧ zs.getD (n - (m + 1)) 0 ≤ 65535 := by
      have hlt : n - (m + 1) < zs.length := by omega
      simp only [List.getD, List.getElem?_eq_getElem hlt, Option.getD_some]
      exact hx _ (List.getElem_mem hlt)
    omega

theorem num_fits (n : Nat) (zs : List Int) (hl : zs.length = n) (hx : ∀ x ∈ zs, 0 ≤ x ∧ x ≤ 65535) : num zs / 2 ^ (16 * n) = 0 := by
  rw [num_div n zs hl hx n (Nat.le_refl _)]
  simp [num]

theorem wds_num (n : Nat) (zs : List Int) (hl : zs.length = n) (hx : ∀ x ∈ zs, 0 ≤ x ∧ x ≤ 65535) : wds (num zs) n false = zs := by
  refine (ext_wds _ n false zs hl fun i hi => ?_).symm
  unfold wd pl
  rw [num_div n zs hl hx _ (by omega)]
  have e : n - (n - 1 - i) = i + 1 := by omega
  rw [e, num_take _ _ (by omega)]
  have hlt : i < zs.length := by omega
  have hb : 0 ≤ zs.getD i 0 ∧ zs.getD i 0 ≤ 65535 := by
    simp only [List.getD, List.getElem?_eq_getElem hlt, Option.getD_some]
    exact hx _ (List.getElem_mem hlt)
  simp only [Bool.false_eq_true, if_false]
  omega

theorem wds_num_little (n : Nat) (zs : List Int) (hl : zs.length = n) (hx : ∀ x ∈ zs, 0 ≤ x ∧ x ≤ 65535) : wds (num zs.reverse) n true = zs := by
  have h := wds_num n zs.reverse (by rw [List.length_reverse]; exact hl) (fun x h => hx x (by simpa using h))
  rw [← wds_reverse] at h
  exact List.reverse_inj.1 h

end Go.Proofs.Ytnnnaffhajljaaa

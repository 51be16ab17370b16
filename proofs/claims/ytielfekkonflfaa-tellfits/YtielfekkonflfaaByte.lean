/- Bits of bytes, by numbers: no program. -/
import Derived.Test.YtielfekkonflfaaGen
namespace Go.Proofs.Ytielfekkonflfaa
set_option linter.unusedVariables false

/-- Bit k of a byte. -/
def tb (x : Int) (k : Nat) : Bool := decide (x / 2 ^ k % 2 = 1)
/-- A byte with bit k set to v. -/
def sb (x : Int) (k : Nat) (v : Bool) : Int := if tb x k = v then x else if v then x + 2 ^ k else x - 2 ^ k

theorem byte_cases {p : Int → Prop} (h : ∀ a : Fin 256, p ((a.val : Nat) : Int)) (x : Int) (h0 : 0 ≤ x) (h1 : x ≤ 255) : p x := by
  have := h ⟨x.toNat, by omega⟩
  simpa [Int.toNat_of_nonneg h0] using this
theorem bit_cases {p : Nat → Prop} (h : ∀ a : Fin 8, p a.val) (k : Nat) (hk : k < 8) : p k := h ⟨k, hk⟩

theorem or_bit (x : Int) (h0 : 0 ≤ x) (h1 : x ≤ 255) (k : Nat) (hk : k < 8) : bits .or .u8 x (2 ^ k) = sb x k true := by
  revert k
  refine byte_cases (p := fun x => ∀ k, k < 8 → bits .or .u8 x (2 ^ k) = sb x k true) (fun a => bit_cases (p := fun k => bits .or .u8 ((a.val : Nat) : Int) (2 ^ k) = sb ((a.val : Nat) : Int) k true) ?_) x h0 h1
  revert a
  decide +kernel
theorem andNot_bit (x : Int) (h0 : 0 ≤ x) (h1 : x ≤ 255) (k : Nat) (hk : k < 8) : bits .andNot .u8 x (2 ^ k) = sb x k false := by
  revert k
  refine byte_cases (p := fun x => ∀ k, k < 8 → bits .andNot .u8 x (2 ^ k) = sb x k false) (fun a => bit_cases (p := fun k => bits .andNot .u8 ((a.val : Nat) : Int) (2 ^ k) = sb ((a.val : Nat) : Int) k false) ?_) x h0 h1
  revert a
  decide +kernel
theorem and_bit (x : Int) (h0 : 0 ≤ x) (h1 : x ≤ 255) (k : Nat) (hk : k < 8) : decide (bits .and .u8 x (2 ^ k) = 0) = !tb x k := by
  revert k
  refine byte_cases (p := fun x => ∀ k, k < 8 → decide (bits .and .u8 x (2 ^ k) = 0) = !tb x k) (fun a => bit_cases (p := fun k => decide (bits .and .u8 ((a.val : Nat) : Int) (2 ^ k) = 0) = !tb ((a.val : Nat) : Int) k) ?_) x h0 h1
  revert a
  decide +kernel
theorem sb_range (x : Int) (h0 : 0 ≤ x) (h1 : x ≤ 255) (k : Nat) (hk : k < 8) (v : Bool) : 0 ≤ sb x k v ∧ sb x k v ≤ 255 := by
  revert k v
  refine byte_cases (p := fun x => ∀ k, k < 8 → ∀ v, 0 ≤ sb x k v ∧ sb x k v ≤ 255) (fun a => bit_cases (p := fun k => ∀ v, 0 ≤ sb ((a.val : Nat) : Int) k v ∧ sb ((a.val : Nat) : Int) k v ≤ 255) ?_) x h0 h1
  revert a
  decide +kernel
theorem tb_sb (x : Int) (h0 : 0 ≤ x) (h1 : x ≤ 255) (k : Nat) (hk : k < 8) (v : Bool) (j : Nat) (hj : j < 8) : tb (sb x k v) j = if j = k then v else tb x j := by
  revert k v j
  refine byte_cases (p := fun x => ∀ k, k < 8 → ∀ v j, j < 8 → tb (sb x k v) j = if j = k then v else tb x j) (fun a => bit_cases (p := fun k => ∀ v j, j < 8 → tb (sb ((a.val : Nat) : Int) k v) j = if j = k then v else tb ((a.val : Nat) : Int) j) ?_) x h0 h1
  have : ∀ (a : Fin 256) (k : Fin 8) (v : Bool) (j : Fin 8), tb (sb ((a.val : Nat) : Int) k.val v) j.val = if j.val = k.val then v else tb ((a.val : Nat) : Int) j.val := by decide +kernel
  exact fun k v j hj => this a k v ⟨j, hj⟩
/-- A byte is its bits. -/
theorem byte_sum (x : Int) (h0 : 0 ≤ x) (h1 : x ≤ 255) : x = (tb x 0).toNat + 2 * (tb x 1).toNat + 4 * (tb x 2).toNat + 8 * (tb x 3).toNat + 16 * (tb x 4).toNat + 32 * (tb x 5).toNat + 64 * (tb x 6).toNat + 128 * (tb x 7).toNat := by
  refine byte_cases (p := fun x => x = (tb x 0).toNat + 2 * (tb x 1).toNat + 4 * (tb x 2).toNat + 8 * (tb x 3).toNat + 16 * (tb x 4).toNat + 32 * (tb x 5).toNat + 64 * (tb x 6).toNat + 128 * (tb x 7).toNat) ?_ x h0 h1
  decide +kernel
theorem byte_ext (x y : Int) (hx0 : 0 ≤ x) (hx1 : x ≤ 255) (hy0 : 0 ≤ y) (hy1 : y ≤ 255) (h : ∀ k, k < 8 → tb x k = tb y k) : x = y := by
  rw [byte_sum x hx0 hx1, byte_sum y hy0 hy1, h 0 (by omega), h 1 (by omega), h 2 (by omega), h 3 (by omega), h 4 (by omega), h 5 (by omega), h 6 (by omega), h 7 (by omega)]

/-- Bit i of bytes. -/
def bitB (zs : List Int) (i : Nat) : Bool := tb (zs[i / 8]?.getD 0) (i % 8)
/-- Bytes with bit i set to v. -/
def setB (zs : List Int) (i : Nat) (v : Bool) : List Int := zs.set (i / 8) (sb (zs[i / 8]?.getD 0) (i % 8) v)

theorem tb_zero (k : Nat) : tb 0 k = false := by simp [tb]
theorem bitB_out (zs : List Int) (i : Nat) (h : zs.length ≤ i / 8) : bitB zs i = false := by
  unfold bitB
  rw [List.getElem?_eq_none h]
  exact tb_zero _
theorem setB_length (zs : List Int) (i : Nat) (v : Bool) : (setB zs i v).length = zs.length := by simp [setB]
theorem setB_bytes {zs : List Int} (h : Bytes8 zs) (i : Nat) (v : Bool) : Bytes8 (setB zs i v) := by
  intro x hx
  rcases List.mem_or_eq_of_mem_set hx with h1 | rfl
  · exact h x h1
  · exact sb_range _ (h.at_ _).1 (h.at_ _).2 _ (by omega) _
theorem bitB_setB {zs : List Int} (h : Bytes8 zs) (i : Nat) (v : Bool) (hi : i / 8 < zs.length) (j : Nat) : bitB (setB zs i v) j = if j = i then v else bitB zs j := by
  unfold bitB setB
  rw [List.getElem?_set]
  by_cases e : i / 8 = j / 8
  · rw [if_pos e, if_pos (by omega)]
    simp only [Option.getD_some]
    rw [tb_sb _ (h.at_ _).1 (h.at_ _).2 _ (by omega) _ _ (by omega)]
    by_cases e2 : j = i
    · subst e2; simp
    · rw [if_neg e2, if_neg (by omega), e]
  · rw [if_neg e, if_neg (by intro h; subst h; exact e rfl)]
theorem bytes_ext {xs ys : List Int} (hx : Bytes8 xs) (hy : Bytes8 ys) (hl : xs.length = ys.length) (h : ∀ i, bitB xs i = bitB ys i) : xs = ys := by
  apply List.ext_getElem? 
  intro j
  by_cases hj : j < xs.length
  · have hj2 : j < ys.length := by omega
    have : xs[j]?.getD 0 = ys[j]?.getD 0 := by
      refine byte_ext _ _ (hx.at_ _).1 (hx.at_ _).2 (hy.at_ _).1 (hy.at_ _).2 fun k hk => ?_
      have := h (8 * j + k)
      unfold bitB at this
      rwa [show (8 * j + k) / 8 = j by omega, show (8 * j + k) % 8 = k by omega] at this
    rw [List.getElem?_eq_getElem hj, List.getElem?_eq_getElem hj2] at this ⊢
    simpa using this
  · rw [List.getElem?_eq_none (by omega), List.getElem?_eq_none (by omega)]

/-- The number of bytes of n bits. -/
def nb (n : Nat) : Nat := (n + 7) / 8
/-- The bytes when m of the bits l have been laid. -/
def pk (l : List Bool) : Nat → List Int
  | 0 => List.replicate (nb l.length) 0
  | m + 1 => if l[m]?.getD false then setB (pk l m) m true else pk l m

theorem pk_length (l : List Bool) (m : Nat) : (pk l m).length = nb l.length := by
  induction m with
  | zero => simp [pk]
  | succ m ih => unfold pk; split <;> simp [setB_length, ih]
theorem pk_bytes (l : List Bool) (m : Nat) : Bytes8 (pk l m) := by
  induction m with
  | zero => intro x hx; have := List.eq_of_mem_replicate hx; omega
  | succ m ih =>
    unfold pk
    split
    · exact setB_bytes ih _ _
    · exact ih
theorem pk_bit (l : List Bool) (m : Nat) (hm : m ≤ l.length) (i : Nat) : bitB (pk l m) i = (decide (i < m) && l[i]?.getD false) := by
  induction m with
  | zero =>
    simp only [Nat.not_lt_zero, decide_false, Bool.false_and]
    unfold bitB pk
    rw [List.getElem?_replicate]
    split <;> exact tb_zero _
  | succ m ih =>
    have ih := ih (by omega)
    unfold pk
    by_cases hv : l[m]?.getD false = true
    · rw [if_pos hv, bitB_setB (pk_bytes l m) _ _ (by rw [pk_length]; unfold nb; omega)]
      by_cases e : i = m
      · subst e; simp [hv]
      · rw [if_neg e, ih]
        congr 1
        simp only [decide_eq_decide]; omega
    · rw [if_neg hv, ih]
      by_cases e : i = m
      · subst e; simp at hv; simp [hv]
      · congr 1
        simp only [decide_eq_decide]; omega
theorem pk_all (l : List Bool) (i : Nat) : bitB (pk l l.length) i = l[i]?.getD false := by
  rw [pk_bit l _ (Nat.le_refl _)]
  by_cases h : i < l.length
  · simp [h]
  · rw [List.getElem?_eq_none (by omega)]; simp
/-- The first n bits of bytes. -/
def unb (zs : List Int) (n : Nat) : List Bool := (List.range n).map (bitB zs)
theorem unb_length (zs : List Int) (n : Nat) : (unb zs n).length = n := by simp [unb]
theorem unb_succ (zs : List Int) (n : Nat) : unb zs (n + 1) = unb zs n ++ [bitB zs n] := by simp [unb, List.range_succ]
theorem unb_eq (zs : List Int) (l : List Bool) (h : ∀ i, i < l.length → bitB zs i = l[i]?.getD false) : unb zs l.length = l := by
  apply List.ext_getElem (by simp [unb])
  intro i h1 h2
  have := h i h2
  simp [unb, this, List.getElem?_eq_getElem h2]
theorem unb_pk (l : List Bool) : unb (pk l l.length) l.length = l := unb_eq _ _ fun i _ => pk_all l i
/-- Packed in two parts. -/
theorem pk_append (a b : List Bool) (h : a.length % 8 = 0) : pk (a ++ b) (a ++ b).length = pk a a.length ++ pk b b.length := by
  refine bytes_ext (pk_bytes _ _) (fun x hx => ?_) ?_ fun i => ?_
  · rcases List.mem_append.1 hx with hx | hx
    · exact pk_bytes _ _ x hx
    · exact pk_bytes _ _ x hx
  · rw [pk_length, List.length_append, List.length_append, pk_length, pk_length]; unfold nb; omega
  · rw [pk_all]
    have ha : (pk a a.length).length = a.length / 8 := by rw [pk_length]; unfold nb; omega
    unfold bitB
    rw [List.getElem?_append, List.getElem?_append, ha]
    by_cases hi : i < a.length
    · rw [if_pos hi, if_pos (by omega)]
      exact (pk_all a i).symm
    · rw [if_neg hi, if_neg (by omega)]
      have := pk_all b (i - a.length)
      unfold bitB at this
      rw [show (i - a.length) / 8 = i / 8 - a.length / 8 by omega, show (i - a.length) % 8 = i % 8 by omega] at this
      exact this.symm

end Go.Proofs.Ytielfekkonflfaa

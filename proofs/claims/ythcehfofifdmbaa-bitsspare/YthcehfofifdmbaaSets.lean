/- Within; bits that are set, as they are got. -/
import Derived.Test.YthcehfofifdmbaaAwake2
namespace Go.Proofs.Ythcehfofifdmbaa
open Go.ChangeShapes Go.WideShapes Go.ChangeAt Go.RowKit
set_option linter.unusedVariables false

theorem within_any (k n : Int) (w : World) (h0 : -9223372036854775808 ≤ k) (h1 : k ≤ 9223372036854775807) (hn : 0 < n) (hn1 : n ≤ 4611686018427387903) :
    Calls Try.prog 20 #[.int .i64 k, .int .i64 n] w fun e w' => e = .returned (.int .i64 (k % n)) ∧ w = w' := by
  have hm0 := Int.emod_nonneg k (show n ≠ 0 by omega)
  have hm1 := Int.emod_lt_of_pos k hn
  by_cases h : 0 ≤ k
  · have e : k.tmod n = k % n := Int.tmod_eq_emod_of_nonneg h
    go_enter Try.func20, Try.ntmps20
    go_wp2
    go_ret
    exact ⟨rfl, rfl⟩
  · have e0 := Int.tmod_eq_emod (a := k) (b := n)
    by_cases hd : n ∣ k
    · have e : k.tmod n = k % n := by rw [e0, if_pos (.inr hd)]; omega
      clear e0
      go_enter Try.func20, Try.ntmps20
      go_wp2
      go_ret
      exact ⟨rfl, rfl⟩
    · have e : k.tmod n = k % n - n := by rw [e0, if_neg (by rintro (h2 | h2); exact h h2; exact hd h2)]; omega
      have hlt : k % n - n < 0 := by omega
      clear e0
      go_enter Try.func20, Try.ntmps20
      go_wp2
      go_ret
      exact ⟨ret_int (by omega), rfl⟩

theorem bitI_setI {zs : List Int} {n : Nat} (hx : Bytes8 zs) (hl : zs.length = n) (x : Int) (v : Bool) (j : Nat) : bitI (setI zs n x v) (j : Int) = if (j : Int) = x then (v && decide ((j : Int) < 8 * (n : Int))) else bitI zs (j : Int) := by
  by_cases h : 0 ≤ x ∧ x / 8 < n
  · obtain ⟨k, rfl⟩ := Int.eq_ofNat_of_zero_le h.1
    rw [setI_in _ _ _ _ (by omega), bitI_nat, bitI_nat, bitB_setB hx _ _ (by omega)]
    by_cases e : j = k
    · subst e
      simp only [if_true]
      rw [show decide ((j : Int) < 8 * (n : Int)) = true by simp only [decide_eq_true_eq]; omega]
      simp
    · rw [if_neg e, if_neg (by omega)]
  · rw [setI_out _ _ _ _ h]
    by_cases e : (j : Int) = x
    · subst e
      rw [if_pos rfl, bitI_out zs n hl _ h, show decide ((j : Int) < 8 * (n : Int)) = false by simp only [decide_eq_false_iff_not]; omega]
      simp
    · rw [if_neg e]

theorem get_kept (A : Option Addr) (n c : Nat) (zs : List Int) (i : Int) (w W : World) (hr : Row .u8 w w.heap.size A n zs) (hx : Bytes8 zs) (h0 : -9223372036854775808 ≤ i) (h1 : i ≤ 9223372036854775807) (hn : n ≤ 100000) (hk : Below w.heap.size w W) :
    Calls Try.prog 23 #[.slice A n c, .int .i64 i] W (Quiet (.bool (bitI zs i)) W) := get_any A n c zs i W ((hr.below hk).more hk.size) hx h0 h1 hn
theorem bit_kept (A : Option Addr) (n c : Nat) (zs : List Int) (i : Int) (w W : World) (hr : Row .u8 w w.heap.size A n zs) (hx : Bytes8 zs) (h0 : -9223372036854775808 ≤ i) (h1 : i ≤ 9223372036854775807) (hn : n ≤ 100000) (hk : Below w.heap.size w W) :
    Calls Try.prog 24 #[.slice A n c, .int .i64 i] W (Quiet (.bool (bitI zs i)) W) := bit_any A n c zs i W ((hr.below hk).more hk.size) hx h0 h1 hn

theorem pack_kept (A : Option Addr) (n c : Nat) (bs : List Bool) (w W : World) (hr : BRow w w.heap.size A n bs) (hn : n ≤ 100000) (hk : Below w.heap.size w W) :
    Calls Try.prog 10 #[.slice A n c] W fun e w' => ∃ g, e = .returned (.slice (some ⟨g, 0, none⟩) (nb n) (nb n)) ∧ Row .u8 w' w'.heap.size (some ⟨g, 0, none⟩) (nb n) (pk bs n) ∧ Below W.heap.size W w' ∧ Below w.heap.size w w' :=
  (pack_all A n c bs W ((hr.below hk).more hk.size) hn).mono fun e w' ⟨he, hw, hb⟩ => ⟨_, he, hw, hb, hk.trans (hb.mono hk.size)⟩

end Go.Proofs.Ythcehfofifdmbaa

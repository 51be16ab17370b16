/- Contracts of same and of the document's Join. -/
import Derived.Test.YtnnnaffhajljaaaSplit
namespace Go.Proofs.Ytnnnaffhajljaaa
open Go.RowKit
set_option linter.unusedVariables false

theorem same_yes (A B : Option Addr) (n c d : Nat) (zs : List Int) (w : World) (ha : Row .u16 w w.heap.size A n zs) (hb : Row .u16 w w.heap.size B n zs) (hn : n ≤ 1000) :
    Calls Try.prog 22 #[.slice A n c, .slice B n d] w (Quiet (.bool true) w) := by
  have HA := Lib.hid ha
  have HB := Lib.hid hb
  clear ha hb
  go_enter Try.func22, Try.ntmps22
  go_wp2
  go_loopw [5] (fun i wr => ∃ k d : Nat, k ≤ n ∧ i = .int .i64 (k : Int) ∧ wr = w.drewN d) (fun i _ => n - (intOf i).toNat)
  case atStart => exact ⟨0, 0, by omega, rfl, rfl⟩
  case round =>
    obtain ⟨k, d, hk, rfl, rfl⟩ := hrel
    by_cases hlt : k < n
    · obtain ⟨b1, o1, rfl, hb1, hc1⟩ := HA.out.2 (by omega)
      obtain ⟨b2, o2, rfl, hb2, hc2⟩ := HB.out.2 (by omega)
      have hx1 := hc1 k hlt
      have hx2 := hc2 k hlt
      have hi1 : (k : Int) < (n : Int) := by omega
      clear hc1 hc2
      go_wp2
      go_quiet (fail)
      go_wp2
      go_roundw
      case rel => exact ⟨k + 1, _, by omega, by go_num, rfl⟩
      case measure => simp [intOf]; omega
    · go_wp2
      go_ret
      exact ⟨rfl, _, rfl⟩

theorem refjoin_no (A : Option Addr) (n c : Nat) (l : Bool) (w : World) (hn : n = 0 ∨ 4 < n) (hm : n ≤ 100000) :
    Calls Try.prog 24 #[.slice A n c, .bool l] w fun e w' => e = .returned (.tuple #[.int .u64 0, .bool false]) ∧ w = w' := by
  rcases hn with h | h
  · have h1 : (n : Int) < 1 := by omega
    clear h
    go_enter Try.func24, Try.ntmps24
    go_wp2
    go_ret2
    exact ⟨rfl, rfl⟩
  · have h1 : 1 ≤ (n : Int) := by omega
    have h2 : 4 < (n : Int) := by omega
    go_enter Try.func24, Try.ntmps24
    go_wp2
    go_ret2
    exact ⟨rfl, rfl⟩

theorem num_step {zs : List Int} (h : Words zs) (k : Nat) (hl : k < zs.length) : num (zs.take k) * 65536 + zs[k]?.getD 0 = num (zs.take (k + 1)) := (num_take _ _ hl).symm

theorem refjoin_yes (l : Bool) (A : Option Addr) (n c : Nat) (zs : List Int) (w : World) (hr : Row .u16 w w.heap.size A n zs) (hx : Words zs) (hn1 : 1 ≤ n) (hn4 : n ≤ 4) :
    Calls Try.prog 24 #[.slice A n c, .bool l] w fun e w' => e = .returned (.tuple #[.int .u64 (num (if l then zs.reverse else zs)), .bool true]) ∧ w = w' := by
  obtain ⟨hl, hc⟩ := hr
  obtain ⟨b, off, rfl, hb, hcell⟩ := hc (by omega)
  have hg1 : 1 ≤ (n : Int) := by omega
  have hg4 : (n : Int) ≤ 4 := by omega
  cases l
  · have HL := Lib.hid hl
    have HX := Lib.hid hx
    have HCELL := Lib.hid hcell
    simp only [Bool.false_eq_true, if_false]
    clear hl hc hx hcell
    go_enter Try.func24, Try.ntmps24
    go_wp2
    go_loop [6, 7] (fun v i => ∃ (k : Nat) (q : Int), k ≤ n ∧ i = .int .i64 k ∧ v = .int .u64 q ∧ Hid (q = num (zs.take k))) (fun _ i => n - (intOf i).toNat)
    case atStart => exact ⟨0, 0, Nat.zero_le _, rfl, rfl, rfl⟩
    case round =>
      obtain ⟨k, q, hk, rfl, rfl, HQ⟩ := hrel
      by_cases hlt : k < n
      · have hcl := HCELL.out k hlt
        have hi1 : (k : Int) < (n : Int) := by omega
        have hq := HX.out.num_lt k (by omega)
        rw [← HQ.out] at hq
        have hb := HX.out.at_ k
        have HS : Hid (q * 65536 + zs[k]?.getD 0 = num (zs.take (k + 1))) := by rw [HQ.out]; exact num_step HX.out k (by rw [HL.out]; exact hlt)
        go_wp2
        go_round
        case rel => exact ⟨k + 1, _, by omega, by go_num, rfl, HS.out⟩
        case measure => simp [intOf]; omega
      · go_wp2
        go_ret2
        exact ⟨ret_int2 (by rw [HQ.out, List.take_of_length_le (by rw [HL.out]; omega)]), rfl⟩
  · have HX := Lib.hid hx.reverse
    have HL : Hid (zs.reverse.length = n) := by rw [List.length_reverse]; exact hl
    have hcell2 : ∀ k, k < n → w.cell? ⟨b, off + (n - 1 - k), none⟩ = some (.int .u16 (zs.reverse[k]?.getD 0)) := fun k hk => by
      rw [hcell _ (by omega), rev_at zs n k hl hk]
    have HCELL := Lib.hid hcell2
    simp only [if_true]
    clear hl hc hx hcell hcell2
    generalize zs.reverse = ys at HX HL HCELL ⊢
    go_enter Try.func24, Try.ntmps24
    go_wp2
    go_loop [6, 7] (fun v i => ∃ (k : Nat) (q : Int), k ≤ n ∧ i = .int .i64 k ∧ v = .int .u64 q ∧ Hid (q = num (ys.take k))) (fun _ i => n - (intOf i).toNat)
    case atStart => exact ⟨0, 0, Nat.zero_le _, rfl, rfl, rfl⟩
    case round =>
      obtain ⟨k, q, hk, rfl, rfl, HQ⟩ := hrel
      by_cases hlt : k < n
      · have hcl := HCELL.out k hlt
        have hi1 : (k : Int) < (n : Int) := by omega
        have hq := HX.out.num_lt k (by omega)
        rw [← HQ.out] at hq
        have hb := HX.out.at_ k
        have HS : Hid (q * 65536 + ys[k]?.getD 0 = num (ys.take (k + 1))) := by rw [HQ.out]; exact num_step HX.out k (by rw [HL.out]; exact hlt)
        go_wp2
        go_round
        case rel => exact ⟨k + 1, _, by omega, by go_num, rfl, HS.out⟩
        case measure => simp [intOf]; omega
      · go_wp2
        go_ret2
        exact ⟨ret_int2 (by rw [HQ.out, List.take_of_length_le (by rw [HL.out]; omega)]), rfl⟩

end Go.Proofs.Ytnnnaffhajljaaa

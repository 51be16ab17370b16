/- Contracts of the document's Bytes, power, Pack, Bit. -/
import Derived.Test.YthmendcdfhlkkaaBitsPack
namespace Go.Proofs.Ythmendcdfhlkkaa
open Go.ChangeShapes Go.WideShapes Go.ChangeAt Go.RowKit
set_option linter.unusedVariables false

theorem refbytes_any (n : Int) (w : World) (h0 : -9223372036854775808 ≤ n) (h1 : n ≤ 9223372036854775807) : Calls Try.prog 81 #[.int .i64 n] w fun e w' => e = .returned (.int .i64 (nbI n)) ∧ w = w' := by
  by_cases h : n < 1
  · go_enter Try.func81, Try.ntmps81
    go_wp2
    go_ret
    exact ⟨ret_int (by unfold nbI; rw [if_pos h]), rfl⟩
  · go_enter Try.func81, Try.ntmps81
    go_wp2
    go_ret
    exact ⟨ret_int (by unfold nbI; rw [if_neg (by omega)]), rfl⟩
theorem refbytes_nat (n : Nat) (w : World) (h : n ≤ 100000) : Calls Try.prog 81 #[.int .i64 (n : Int)] w fun e w' => e = .returned (.int .i64 ((nb n : Nat) : Int)) ∧ w = w' := by
  have := refbytes_any (n : Int) w (by omega) (by omega)
  rwa [nbI_nat] at this

theorem pow_twice (j : Nat) (h : j < 7) : IntKind.u8.wrap ((2 : Int) ^ j * 2) = 2 ^ (j + 1) := by
  have h1 := pow_range (j + 1) (by omega)
  rw [← Int.pow_succ]
  exact IntWalk.u8_in _ (by omega)
theorem power_any (k : Nat) (w : World) (h : k < 8) : Calls Try.prog 121 #[.int .i64 (k : Int)] w fun e w' => e = .returned (.int .u8 (2 ^ k)) ∧ w = w' := by
  go_enter Try.func121, Try.ntmps121
  go_wp2
  go_loop [3, 4] (fun p i => ∃ j : Nat, j ≤ k ∧ i = .int .i64 (j : Int) ∧ p = .int .u8 (2 ^ j)) (fun _ i => k - (intOf i).toNat)
  case atStart => exact ⟨0, Nat.zero_le _, rfl, rfl⟩
  case round =>
    obtain ⟨j, hj, rfl, rfl⟩ := hrel
    by_cases hlt : j < k
    · have e := pow_twice j (by omega)
      have HE := Lib.hid e
      go_wp2
      go_round
      case rel => exact ⟨j + 1, by omega, by go_num, rfl⟩
      case measure => simp [intOf]; omega
    · obtain rfl : k = j := by omega
      go_wp2
      go_ret
      exact ⟨rfl, rfl⟩

theorem power_mod (k : Nat) (w : World) : Calls Try.prog 121 #[.int .i64 ((k : Int) % 8)] w fun e w' => e = .returned (.int .u8 (2 ^ (k % 8))) ∧ w = w' := power_any (k % 8) w (by omega)

theorem add_bit (x : Int) (h0 : 0 ≤ x) (h1 : x ≤ 255) (k : Nat) (hk : k < 8) (hb : tb x k = false) : IntKind.u8.wrap (x + 2 ^ k) = sb x k true := by
  have e : sb x k true = x + 2 ^ k := by simp [sb, hb]
  rw [← e]
  have := sb_range x h0 h1 k hk true
  exact IntWalk.u8_in _ (by omega)
theorem sub_bit (x : Int) (h0 : 0 ≤ x) (h1 : x ≤ 255) (k : Nat) (hk : k < 8) (hb : tb x k = true) : IntKind.u8.wrap (x - 2 ^ k) = sb x k false := by
  have e : sb x k false = x - 2 ^ k := by simp [sb, hb]
  rw [← e]
  have := sb_range x h0 h1 k hk false
  exact IntWalk.u8_in _ (by omega)

theorem refpack_any (A : Option Addr) (n c : Nat) (bs : List Bool) (w : World) (hr : BRow w w.heap.size A n bs) (hn : n ≤ 100000) :
    Calls Try.prog 82 #[.slice A n c] w fun e w' => e = .returned (.slice (some ⟨w.heap.size, 0, none⟩) (nb n) (nb n)) ∧ Whole .u8 w' w.heap.size 5 (pk bs n) ∧ Below w.heap.size w w' := by
  have hmk : ∀ W : World, (Instr.makeSlice 22 (.int .i64 (↑(nb n))) (.int .i64 (↑(nb n)))).run Try.prog W = .ok (.slice (some ⟨W.heap.size, 0, none⟩) (nb n) (nb n)) (W.alloc (.cells ((List.replicate (nb n) (0 : Int)).map (Value.int .u8)).toArray 5)) :=
    fun W => make_bytes (nb n) (by have := nb_le n; omega) W
  have HN := Lib.hid hr.1
  have HR := Lib.hid hr
  have HS : Hid (Whole .u8 (w.alloc (.cells (Array.replicate (nb n) (Value.int .u8 0)) 5)) w.heap.size 5 (pk bs 0)) := by
    have := zero_bytes w (nb n)
    unfold pk
    rw [hr.1]
    exact this
  have HBS := Lib.hid ((Below.refl w.heap.size w).alloc (Nat.le_refl _) (.cells (Array.replicate (nb n) (Value.int .u8 0)) 5))
  clear hr
  go_enter Try.func82, Try.ntmps82
  go_wp2_with (go_at_call 81; refine (refbytes_nat _ _ (by omega)).mono ?_; rintro e w1 ⟨rfl, rfl⟩)
  go_loopw [4] (fun i wr => ∃ (k : Nat), k ≤ n ∧ i = .int .i64 (k : Int) ∧ Hid (Whole .u8 wr w.heap.size 5 (pk bs k)) ∧ Hid (Below w.heap.size w wr)) (fun i _ => n - (intOf i).toNat)
  case atStart => exact ⟨0, by omega, rfl, HS, HBS⟩
  case round =>
    obtain ⟨k, hk, rfl, HW, HB⟩ := hrel
    by_cases hlt : k < n
    · obtain ⟨b, off, rfl, hb, hcell⟩ := HR.out.2 (by omega)
      have hc := (HB.out.cell (p := ⟨b, off + k, none⟩) hb).trans (hcell k hlt)
      have hi1 : (k : Int) < (n : Int) := by omega
      clear hcell
      rcases hv : bs[k]?.getD false with _ | _
      · have HV := Lib.hid hv
        have hv2 : bs.getD k false = false := hv
        rw [hv2] at hc
        clear hv hv2
        go_wp2
        go_roundw
        case rel => exact ⟨k + 1, by omega, by go_num, by rw [pk_step_no _ _ HV.out]; exact HW, HB⟩
        case measure => simp [intOf]; omega
      · have HV := Lib.hid hv
        have hv2 : bs.getD k false = true := hv
        rw [hv2] at hc
        clear hv hv2
        have hq : k / 8 < nb n := nb_lt n k hlt
        have hi3 : (k : Int) / 8 < ((nb n : Nat) : Int) := by omega
        have hi0 : 0 ≤ (k : Int) / 8 := by omega
        have hi2 : ((k : Int) / 8).toNat = k / 8 := by omega
        have hc1 : wr.cell? ⟨w.heap.size, k / 8, none⟩ = some (.int .u8 ((pk bs k)[k / 8]?.getD 0)) := HW.out.cell (k / 8) (by rw [pk_length, HN.out]; exact hq)
        have hf1 := HW.out.frozen (k / 8)
        have hb0 := (pk_bytes bs k).at_ (k / 8)
        have hb1 : tb ((pk bs k)[k / 8]?.getD 0) (k % 8) = false := by
          have := pk_bit bs k (by rw [HN.out]; omega) k
          unfold bitB at this
          simpa using this
        have HA := Lib.hid (add_bit _ hb0.1 hb0.2 (k % 8) (by omega) hb1)
        clear hb0 hb1
        go_wp2_with fail
        have e1 : (k : Int).tdiv 8 = (k : Int) / 8 := Int.tdiv_eq_ediv_of_nonneg (by omega)
        have e2 : (k : Int).tmod 8 = (k : Int) % 8 := Int.tmod_eq_emod_of_nonneg (by omega)
        have e3 : IntKind.i64.wrap ((k : Int) / 8) = (k : Int) / 8 := IntWalk.i64_in _ (by omega)
        go_region_with (first
            | (go_at_call 121; refine (power_mod k _).mono ?_; rintro e w1 ⟨rfl, rfl⟩))
        all_goals (
          go_wp2
          go_roundw
          case rel =>
            refine ⟨k + 1, by omega, by go_num, ?_, (HB.out.setCell (Nat.le_refl _) _).drew⟩
            have h := HW.out.set_ (k / 8) (sb ((pk bs k)[k / 8]?.getD 0) (k % 8) true)
            rw [← pk_step_yes _ _ HV.out, ← HA.out] at h
            exact h
          case measure => simp [intOf]; omega)
    · obtain rfl : n = k := by omega
      go_wp2
      go_ret
      exact ⟨rfl, HW.out, HB.out⟩

theorem bit_any (A : Option Addr) (n c : Nat) (zs : List Int) (i : Int) (w : World) (hr : Row .u8 w w.heap.size A n zs) (hx : Bytes8 zs) (h0 : -9223372036854775808 ≤ i) (h1 : i ≤ 9223372036854775807) (hn : n ≤ 100000) :
    Calls Try.prog 125 #[.slice A n c, .int .i64 i] w (Quiet (.bool (bitI zs i)) w) := by
  by_cases h : 0 ≤ i ∧ i / 8 < n
  · obtain ⟨k, rfl⟩ := Int.eq_ofNat_of_zero_le h.1
    have hk : k / 8 < n := by omega
    obtain ⟨b, off, rfl, hb, hcell⟩ := hr.2 (by omega)
    have hc := hcell (k / 8) hk
    have hi1 : (k : Int) / 8 < (n : Int) := h.2
    have hi0 : 0 ≤ (k : Int) / 8 := by omega
    have hi2 : ((k : Int) / 8).toNat = k / 8 := by omega
    have hb0 := hx.at_ (k / 8)
    have hp := pow_range (k % 8) (by omega)
    clear hcell h
    go_enter Try.func125, Try.ntmps125
    go_wp2
    go_quiet (first
      | (go_at_call 121; exact quiet_still (power_mod k _)))
    go_wp2
    go_ret
    refine ⟨ret_bool ?_, _, rfl⟩
    rw [bitI_nat, Int.tmod_eq_emod_of_nonneg (Int.ediv_nonneg hb0.1 (by omega))]
    unfold bitB tb
    rw [Bool.beq_eq_decide_eq]
  · have H := Lib.hid h
    have HL := Lib.hid hr.1
    by_cases hneg : i < 0
    · clear hr hx h
      go_enter Try.func125, Try.ntmps125
      go_wp2
      go_ret
      exact ⟨ret_bool (bitI_out zs n HL.out i H.out).symm, 0, rfl⟩
    · have hge : (n : Int) ≤ i / 8 := by omega
      clear hr hx h
      go_enter Try.func125, Try.ntmps125
      go_wp2
      go_ret
      exact ⟨ret_bool (bitI_out zs n HL.out i H.out).symm, 0, rfl⟩

end Go.Proofs.Ythmendcdfhlkkaa

/- Contracts of package bits: Pack. -/
import Derived.Test.YtielfekkonflfaaBitsFns
namespace Go.Proofs.Ytielfekkonflfaa
open Go.ChangeShapes Go.WideShapes Go.ChangeAt Go.RowKit
set_option linter.unusedVariables false

theorem bytes_nat (n : Nat) (w : World) (h : n ≤ 100000) : Calls Try.prog 48 #[.int .i64 (n : Int)] w fun e w' => e = .returned (.int .i64 ((nb n : Nat) : Int)) ∧ w = w' := by
  have := bytes_any (n : Int) w (by omega) (by omega)
  rwa [nbI_nat] at this

theorem nb_le (n : Nat) : nb n ≤ n := by unfold nb; omega
theorem nb_lt (n k : Nat) (h : k < n) : k / 8 < nb n := by unfold nb; omega

theorem zero_bytes (w : World) (m : Nat) : Whole .u8 (w.alloc (.cells (Array.replicate m (Value.int .u8 0)) 5)) w.heap.size 5 (List.replicate m 0) := by
  unfold Whole
  rw [List.map_replicate, List.toArray_replicate]
  exact heap_alloc_new w _

theorem pk_step_yes (l : List Bool) (k : Nat) (h : l[k]?.getD false = true) : pk l (k + 1) = (pk l k).set (k / 8) (sb ((pk l k)[k / 8]?.getD 0) (k % 8) true) := by
  show (if l[k]?.getD false then setB (pk l k) k true else pk l k) = _
  rw [if_pos h]; rfl
theorem pk_step_no (l : List Bool) (k : Nat) (h : l[k]?.getD false = false) : pk l (k + 1) = pk l k := by
  show (if l[k]?.getD false then setB (pk l k) k true else pk l k) = _
  rw [if_neg (by simp [h])]

theorem pack_any (A : Option Addr) (n c : Nat) (bs : List Bool) (w : World) (hr : BRow w w.heap.size A n bs) (hn : n ≤ 100000) :
    Calls Try.prog 21 #[.slice A n c] w fun e w' => e = .returned (.slice (some ⟨w.heap.size, 0, none⟩) (nb n) (nb n)) ∧ Whole .u8 w' w.heap.size 5 (pk bs n) ∧ Below w.heap.size w w' := by
  have hmk : ∀ W : World, (Instr.makeSlice 30 (.int .i64 (↑(nb n))) (.int .i64 (↑(nb n)))).run Try.prog W = .ok (.slice (some ⟨W.heap.size, 0, none⟩) (nb n) (nb n)) (W.alloc (.cells ((List.replicate (nb n) (0 : Int)).map (Value.int .u8)).toArray 5)) :=
    fun W => make_bytes (nb n) (by have := nb_le n; omega) W
  have HN := Lib.hid hr.1
  have HR := Lib.hid hr
  have HS : Hid (Whole .u8 (w.alloc (.cells (Array.replicate (nb n) (Value.int .u8 0)) 5)) w.heap.size 5 (pk bs 0)) := by
    have := zero_bytes w (nb n)
    unfold pk
    rw [hr.1]
    exact this
  have HBS := Lib.hid ((Below.refl w.heap.size w).alloc (Nat.le_refl _) (.cells (Array.replicate (nb n) (Value.int .u8 0)) 5))
  clear hr
  go_enter Try.func21, Try.ntmps21
  go_wp2_with (go_at_call 48; refine (bytes_nat _ _ (by omega)).mono ?_; rintro e w1 ⟨rfl, rfl⟩)
  go_loopw [12] (fun i wr => ∃ (k : Nat), k ≤ n ∧ i = .int .i64 (k : Int) ∧ Hid (Whole .u8 wr w.heap.size 5 (pk bs k)) ∧ Hid (Below w.heap.size w wr)) (fun i _ => n - (intOf i).toNat)
  case atStart => exact ⟨0, by omega, rfl, HS, HBS⟩
  case round =>
    obtain ⟨k, hk, rfl, HW, HB⟩ := hrel
    by_cases hlt : k < n
    · obtain ⟨b, off, rfl, hb, hcell⟩ := HR.out.2 (by omega)
      have hc := (HB.out.cell (p := ⟨b, off + k, none⟩) hb).trans (hcell k hlt)
      have hi1 : (k : Int) < (n : Int) := by omega
      clear hcell
      rcases hv : bs[k]?.getD false with _ | _
      · have HV := Lib.hid hv
        have hv2 : bs.getD k false = false := hv
        rw [hv2] at hc
        clear hv hv2
        go_wp2
        go_roundw
        case rel => exact ⟨k + 1, by omega, by go_num, by rw [pk_step_no _ _ HV.out]; exact HW, HB⟩
        case measure => simp [intOf]; omega
      · have HV := Lib.hid hv
        have hv2 : bs.getD k false = true := hv
        rw [hv2] at hc
        clear hv hv2
        have hq : k / 8 < nb n := nb_lt n k hlt
        have hi3 : (k : Int) / 8 < ((nb n : Nat) : Int) := by omega
        have hi0 : 0 ≤ (k : Int) / 8 := by omega
        have hi2 : ((k : Int) / 8).toNat = k / 8 := by omega
        have hc1 : wr.cell? ⟨w.heap.size, k / 8, none⟩ = some (.int .u8 ((pk bs k)[k / 8]?.getD 0)) := HW.out.cell (k / 8) (by rw [pk_length, HN.out]; exact hq)
        have hf1 := HW.out.frozen (k / 8)
        have hb0 := (pk_bytes bs k).at_ (k / 8)
        have HA := Lib.hid (or_bit _ hb0.1 hb0.2 (k % 8) (by omega))
        clear hb0
        go_wp2_with fail
        go_region_with (first
            | (go_at_call 49; refine (mask_any k _ (by omega)).mono ?_; rintro e w1 ⟨rfl, rfl⟩))
        all_goals (
          go_wp2
          go_roundw
          case rel =>
            refine ⟨k + 1, by omega, by go_num, ?_, (HB.out.setCell (Nat.le_refl _) _).drew⟩
            have h := HW.out.set_ (k / 8) (sb ((pk bs k)[k / 8]?.getD 0) (k % 8) true)
            rw [← pk_step_yes _ _ HV.out, ← HA.out] at h
            exact h
          case measure => simp [intOf]; omega)
    · obtain rfl : n = k := by omega
      go_wp2
      go_ret
      exact ⟨rfl, HW.out, HB.out⟩

end Go.Proofs.Ytielfekkonflfaa

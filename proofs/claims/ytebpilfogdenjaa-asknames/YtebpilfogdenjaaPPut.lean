/- Package ask: put, putList, packed. -/
import Derived.Test.YtebpilfogdenjaaPSmall
import Derived.Test.YtebpilfogdenjaaPList
import Derived.Test.YtebpilfogdenjaaAskWords
import Derived.Test.YtebpilfogdenjaaBitsPack
namespace Go.Proofs.Ytebpilfogdenjaa
open Go.ChangeShapes Go.WideShapes Go.ChangeAt Go.RowKit
set_option linter.unusedVariables false
set_option linter.unusedSimpArgs false

theorem flat_nil : flat ([] : List Int) = [] := rfl
theorem flat_all (ws : List Int) (m : Nat) (h : ws.length = m) : flat (ws.take m) = flat ws := by rw [List.take_of_length_le (by omega)]

set_option maxHeartbeats 1000000 in
theorem pput_any (A : Option Addr) (n c : Nat) (zs : List Int) (B : Option Addr) (m d : Nat) (ws : List Int) (w : World) (hr : Row .u8 w w.heap.size A n zs) (hw : Row .i64 w w.heap.size B m ws) (hx : Words ws) (hn : n ≤ 1000) (hm : m ≤ 1000) (hm0 : 0 < m) :
    Calls Try.prog 28 #[.slice A n c, .slice B m d] w fun e w' => ∃ g, e = .returned (.slice (some ⟨g, 0, none⟩) (n + 2 * m) (n + 2 * m)) ∧ Whole .u8 w' g 5 (zs ++ flat ws) ∧ w.heap.size ≤ g ∧ Below w.heap.size w w' := by
  have HR := Lib.hid hr
  have HW := Lib.hid hw
  have HX := Lib.hid hx
  have HN := Lib.hid hw.1
  clear hr hw hx
  go_enter Try.func28, Try.ntmps28
  go_wp2
  go_loopw [0, 6, 9] (fun b x i wr => ∃ (k : Nat) (C : Option Addr) (cc : Nat), k ≤ m ∧ i = .int .i64 (k : Int) ∧ b = .slice C (n + 2 * k) cc ∧ Hid (Row .u8 wr wr.heap.size C (n + 2 * k) (zs ++ flat (ws.take k))) ∧ Hid (k = 0 ∨ ∃ g, C = some ⟨g, 0, none⟩ ∧ cc = n + 2 * k ∧ Whole .u8 wr g 5 (zs ++ flat (ws.take k)) ∧ w.heap.size ≤ g) ∧ Hid (Below w.heap.size w wr)) (fun _ _ i _ => m - (intOf i).toNat)
  case atStart =>
    refine ⟨0, A, c, by omega, rfl, rfl, ?_, .inl rfl, Below.refl _ _⟩
    have h := HR.out
    have e : zs ++ flat (ws.take 0) = zs := by simp [flat]
    show Row .u8 w w.heap.size A n _
    rw [e]
    exact h
  case round =>
    obtain ⟨k, C, cc, hk, rfl, rfl, HK, HG, HB⟩ := hrel
    by_cases hlt : k < m
    · obtain ⟨b, off, rfl, hb, hcell⟩ := HW.out.2 (by omega)
      obtain ⟨z, hz⟩ : ∃ z, ws.getD k 0 = z := ⟨_, rfl⟩
      have hcl : wr.cell? ⟨b, off + k, none⟩ = some (.int .i64 z) := by rw [HB.out.cell hb, hcell k hlt, hz]
      have hbd := HX.out.at_ k
      change 0 ≤ ws.getD k 0 ∧ ws.getD k 0 ≤ 65535 at hbd
      rw [hz] at hbd
      have z0 := hbd.1
      have z1 := hbd.2
      have wz : IntKind.u16.wrap z = z := IntWalk.u16_in _ (by omega)
      have HT : Hid (zs ++ flat (ws.take k) ++ [z / 256, z % 256] = zs ++ flat (ws.take (k + 1))) := by
        rw [flat_take ws k (by rw [HN.out]; exact hlt), hz, List.append_assoc]; rfl
      have hi1 : (k : Int) < (m : Int) := by omega
      clear hcell hz hbd
      go_wp2_with (go_at_call 53; (with_reducible refine (wput_any C (n + 2 * k) cc _ z _ HK.out z0 z1 (by omega)).mono ?_); rintro e w2 ⟨rfl, ho2, hb2⟩; have HO2 := Lib.hid ho2; have HB2 := Lib.hid hb2; clear ho2 hb2)
      go_roundw
      case rel =>
        have ho := HO2.out
        rw [HT.out] at ho
        have hrow := ho.row
        have hlen : (zs ++ flat (ws.take (k + 1))).length = n + 2 * (k + 1) := by
          rw [List.length_append, flat_length, HR.out.1, List.length_take, HN.out]; omega
        rw [hlen] at hrow
        exact ⟨k + 1, some ⟨wr.heap.size, 0, none⟩, n + 2 * k + 2, by omega, by go_num, rfl, hrow, .inr ⟨_, rfl, by omega, ho, HB.out.size⟩, HB.out.trans (HB2.out.mono HB.out.size)⟩
      case measure => simp [intOf]; omega
    · obtain rfl : m = k := by omega
      go_wp2
      go_ret
      rcases HG.out with h0 | ⟨g, rfl, rfl, hwh, hge⟩
      · omega
      · rw [flat_all ws m HN.out] at hwh
        exact ⟨g, rfl, hwh, hge, HB.out⟩

theorem ppacked_any (B : Option Addr) (m d : Nat) (ws : List Int) (w : World) (hw : Row .u16 w w.heap.size B m ws) (hx : Words ws) (hm : m ≤ 1000) :
    Calls Try.prog 31 #[.slice B m d] w fun e w' => ∃ C cc, e = .returned (.slice C (2 * m) cc) ∧ Row .u8 w' w'.heap.size C (2 * m) (flat ws) ∧ (∀ ad : Addr, C = some ad → w.heap.size ≤ ad.block) ∧ Below w.heap.size w w' := by
  have HW := Lib.hid hw
  have HX := Lib.hid hx
  have HN := Lib.hid hw.1
  clear hw hx
  go_enter Try.func31, Try.ntmps31
  go_wp2
  go_loopw [3, 5, 8] (fun b x i wr => ∃ (k : Nat) (C : Option Addr) (cc : Nat), k ≤ m ∧ i = .int .i64 (k : Int) ∧ b = .slice C (2 * k) cc ∧ Hid (Row .u8 wr wr.heap.size C (2 * k) (flat (ws.take k))) ∧ Hid (∀ ad : Addr, C = some ad → w.heap.size ≤ ad.block) ∧ Hid (Below w.heap.size w wr)) (fun _ _ i _ => m - (intOf i).toNat)
  case atStart => exact ⟨0, none, 0, by omega, rfl, rfl, Row.nil _ _ _ _, (fun _ h => by cases h), Below.refl _ _⟩
  case round =>
    obtain ⟨k, C, cc, hk, rfl, rfl, HK, HF, HB⟩ := hrel
    by_cases hlt : k < m
    · obtain ⟨b, off, rfl, hb, hcell⟩ := HW.out.2 (by omega)
      obtain ⟨z, hz⟩ : ∃ z, ws.getD k 0 = z := ⟨_, rfl⟩
      have hcl : wr.cell? ⟨b, off + k, none⟩ = some (.int .u16 z) := by rw [HB.out.cell hb, hcell k hlt, hz]
      have hbd := HX.out.at_ k
      change 0 ≤ ws.getD k 0 ∧ ws.getD k 0 ≤ 65535 at hbd
      rw [hz] at hbd
      have z0 := hbd.1
      have z1 := hbd.2
      have HT : Hid (flat (ws.take k) ++ [z / 256, z % 256] = flat (ws.take (k + 1))) := by
        rw [flat_take ws k (by rw [HN.out]; exact hlt), hz]; rfl
      have hi1 : (k : Int) < (m : Int) := by omega
      clear hcell hz hbd
      go_wp2_with (go_at_call 53; (with_reducible refine (wput_any C (2 * k) cc _ z _ HK.out z0 z1 (by omega)).mono ?_); rintro e w2 ⟨rfl, ho2, hb2⟩; have HO2 := Lib.hid ho2; have HB2 := Lib.hid hb2; clear ho2 hb2)
      go_roundw
      case rel =>
        have ho := HO2.out
        rw [HT.out] at ho
        have hrow := ho.row
        have hlen : (flat (ws.take (k + 1))).length = 2 * (k + 1) := by
          rw [flat_length, List.length_take, HN.out]; omega
        rw [hlen] at hrow
        exact ⟨k + 1, some ⟨wr.heap.size, 0, none⟩, 2 * k + 2, by omega, by go_num, rfl, hrow, (fun ad h => by injection h with h; subst h; exact HB.out.size), HB.out.trans (HB2.out.mono HB.out.size)⟩
      case measure => simp [intOf]; omega
    · obtain rfl : m = k := by omega
      go_wp2
      go_ret
      have h := HK.out
      rw [flat_all ws m HN.out] at h
      exact ⟨C, cc, rfl, h, HF.out, HB.out⟩

end Go.Proofs.Ytebpilfogdenjaa

/- Package desk: Open, New. No statement is proved here. -/
import Derived.Test.YtokljdkbheogoaaDesk3
namespace Go.Proofs.Ytokljdkbheogoaa
open Go.ChangeShapes Go.WideShapes Go.ChangeAt Go.RowKit
set_option linter.unusedVariables false
set_option linter.unusedSimpArgs false

section
variable {w : World} {g M : Nat} {st : List Int}

set_option maxRecDepth 100000 in
set_option maxHeartbeats 1000000 in
theorem open_yes (k : Nat) (h : DkAt 104 w g M st) (hk : k < M) (hbef : ∀ j, j < k → st.getD j 0 ≠ 0) (hv : st.getD k 0 = 0) : Calls Try.prog 27 #[.pointer (some ⟨g, 0, none⟩)] w fun e w' => e = .returned (.tuple #[.int .i64 (k : Int), .bool true]) ∧ DkAt 104 w' g M (st.set k 1) ∧ Off (fun i => i = g) w w' := by
  have hm := h.most
  have h0 := h.cell0
  have HCL := Lib.hid (fun j hj => h.cell j hj)
  obtain ⟨st2, hS⟩ : ∃ st2, st2 = st.set k 1 := ⟨_, rfl⟩
  have HC := Lib.hid (fun W => with_any st k 1 W h.len (by omega))
  rw [← hS] at HC
  have HS := Lib.hid hS
  have HLN := Lib.hid h.len
  have HR := Lib.hid h.head.ranges1
  have HI := Lib.hid (show (Try.prog.info? 102).map (·.size) = some (st.map (Value.int .i64)).length by rw [List.length_map, h.len]; exact infoP)
  have HZ := Lib.hid (show (st2.map (Value.int .i64)).toArray.size = 32 by rw [hS]; simp [h.len])
  have HI2 := Lib.hid (show (Try.prog.info? 102).map (·.size) = some (st2.map (Value.int .i64)).toArray.size by rw [HZ.out]; exact infoP)
  have HD := Lib.hid h
  have HBF := Lib.hid hbef
  clear h hS hbef
  go_enter Try.func27, Try.ntmps27
  go_wp2
  go_loopw [9] (fun i wr => ∃ j : Nat, j ≤ k ∧ i = .int .i64 (j : Int) ∧ w = wr) (fun i _ => 32 - (intOf i).toNat)
  case atStart => exact ⟨0, by omega, rfl, rfl⟩
  case round =>
    obtain ⟨j, hj, rfl, rfl⟩ := hrel
    have hji : (j : Int) < (M : Int) := by omega
    have hcj := HCL.out j (by omega)
    by_cases hlt : j < k
    · have hne := HBF.out j hlt
      obtain ⟨x, hX⟩ : ∃ x, st.getD j 0 = x := ⟨_, rfl⟩
      rw [hX] at hcj hne
      have hxb : (x == 0) = false := by simp [hne]
      clear hX hv
      go_wp2_with fail
      go_roundw
      case rel => exact ⟨j + 1, by omega, by go_num, by first | rfl | trivial⟩
      case measure => simp [intOf]; omega
    · obtain rfl : j = k := by omega
      rw [hv] at hcj
      clear hv
      go_wp2_with (first
        | (with_reducible refine wpList_load_mid (op := ⟨some 23, _, _, _, _, _⟩) rfl 102 (.tmp 22) rfl g 1 rfl (st.map (Value.int .i64)) (.array 32 3) HR.out Try.underlying102 rfl HI.out ?_)
        | (go_at_call 67
           (with_reducible refine (HC.out _).mono ?_)
           rintro e w2 ⟨rfl, hb⟩
           have HD2 := Lib.hid (HD.out.below hb)
           have HB2 := Lib.hid hb
           have HT2 := Lib.hid (show w2.there g 1 (st2.map (Value.int .i64)).toArray.size by rw [HZ.out]; exact HD2.out.head.there 1 32 (by simp [HLN.out]))
           clear hb)
        | (with_reducible refine wpList_store_mid rfl 102 (.tmp 27) (.tmp 25) rfl g 1 (st2.map (Value.int .i64)).toArray rfl rfl HT2.out HI2.out (ints_one _) ?_))
      have hd3 := HD2.out.laid j hk 1
      have ho3 := off_lay (S := fun i => i = g) (a := w) (g := g) (.inl rfl) (st2.map (Value.int .i64)).toArray.toList 1 w2 (Off.of_below HB2.out)
      exact bodyPost_ret (v := .tuple #[.int .i64 (j : Int), .bool true]) (by simp [results, Try.results27, go_sem]) rfl ⟨rfl, by rw [HS.out]; simpa using hd3, by simpa using ho3⟩

set_option maxRecDepth 100000 in
set_option maxHeartbeats 1000000 in
theorem open_no (h : DkAt 104 w g M st) (hbef : ∀ j, j < M → st.getD j 0 ≠ 0) : Calls Try.prog 27 #[.pointer (some ⟨g, 0, none⟩)] w fun e w' => e = .returned (.tuple #[.int .i64 0, .bool false]) ∧ w = w' := by
  have hm := h.most
  have h0 := h.cell0
  have HCL := Lib.hid (fun j hj => h.cell j hj)
  have HBF := Lib.hid hbef
  clear h hbef
  go_enter Try.func27, Try.ntmps27
  go_wp2
  go_loopw [9] (fun i wr => ∃ j : Nat, j ≤ M ∧ i = .int .i64 (j : Int) ∧ w = wr) (fun i _ => 32 - (intOf i).toNat)
  case atStart => exact ⟨0, by omega, rfl, rfl⟩
  case round =>
    obtain ⟨j, hj, rfl, rfl⟩ := hrel
    by_cases hlt : j < M
    · have hji : (j : Int) < (M : Int) := by omega
      have hcj := HCL.out j (by omega)
      have hne := HBF.out j hlt
      obtain ⟨x, hX⟩ : ∃ x, st.getD j 0 = x := ⟨_, rfl⟩
      rw [hX] at hcj hne
      have hxb : (x == 0) = false := by simp [hne]
      clear hX
      go_wp2_with fail
      go_roundw
      case rel => exact ⟨j + 1, by omega, by go_num, by first | rfl | trivial⟩
      case measure => simp [intOf]; omega
    · have hji : ¬ (j : Int) < (M : Int) := by omega
      go_wp2_with fail
      exact bodyPost_ret (v := .tuple #[.int .i64 0, .bool false]) (by simp [results, Try.results27, go_sem]) rfl ⟨rfl, rfl⟩
end

theorem new_pd (w w' : World) (M : Nat) (hM : M ≤ 32) (h : w' = w.alloc (.cells #[.int .i64 (M : Int), .int .i64 0, .int .i64 0, .int .i64 0, .int .i64 0, .int .i64 0, .int .i64 0, .int .i64 0, .int .i64 0, .int .i64 0, .int .i64 0, .int .i64 0, .int .i64 0, .int .i64 0, .int .i64 0, .int .i64 0, .int .i64 0, .int .i64 0, .int .i64 0, .int .i64 0, .int .i64 0, .int .i64 0, .int .i64 0, .int .i64 0, .int .i64 0, .int .i64 0, .int .i64 0, .int .i64 0, .int .i64 0, .int .i64 0, .int .i64 0, .int .i64 0, .int .i64 0] 104)) :
    DkAt 104 w' w.heap.size M (List.replicate 32 0) ∧ Below w.heap.size w w' := by
  subst h
  refine ⟨⟨hM, rfl, heap_alloc_new w _, fun j _ => ?_⟩, (Below.refl _ _).alloc (Nat.le_refl _) _⟩
  rw [List.getD_eq_getElem?_getD, List.getElem?_replicate]
  split <;> rfl
set_option maxRecDepth 100000 in
set_option maxHeartbeats 1000000 in
theorem dnew_any (most : Int) (M : Nat) (w : World) (hM : (M : Int) = if 32 < (if most < 0 then 0 else most) then 32 else (if most < 0 then 0 else most)) :
    Calls Try.prog 24 #[.int .i64 most] w fun e w' => e = .returned (.pointer (some ⟨w.heap.size, 0, none⟩)) ∧ DkAt 104 w' w.heap.size M (List.replicate 32 0) ∧ Below w.heap.size w w' := by
  have hM2 : M ≤ 32 := by split at hM <;> split at hM <;> omega
  by_cases hn : most < 0
  · obtain rfl : M = 0 := by rw [if_pos hn] at hM; simp at hM; omega
    have HN := Lib.hid (new_pd w _ 0 hM2 rfl)
    clear hM hM2
    go_enter Try.func24, Try.ntmps24
    go_wp2
    go_ret
    exact ⟨rfl, HN.out⟩
  · by_cases hx : 32 < most
    · obtain rfl : M = 32 := by rw [if_neg hn, if_pos hx] at hM; omega
      have HN := Lib.hid (new_pd w _ 32 hM2 rfl)
      clear hM hM2
      go_enter Try.func24, Try.ntmps24
      go_wp2
      go_ret
      exact ⟨rfl, HN.out⟩
    · obtain rfl : most = (M : Int) := by rw [if_neg hn, if_neg hx] at hM; omega
      have HN := Lib.hid (new_pd w _ M hM2 rfl)
      clear hM
      go_enter Try.func24, Try.ntmps24
      go_wp2
      go_ret
      exact ⟨rfl, HN.out⟩

end Go.Proofs.Ytokljdkbheogoaa

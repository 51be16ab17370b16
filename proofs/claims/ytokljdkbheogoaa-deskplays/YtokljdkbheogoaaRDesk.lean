/- The document's desk. No statement is proved here. -/
import Derived.Test.YtokljdkbheogoaaDesk4
namespace Go.Proofs.Ytokljdkbheogoaa
open Go.ChangeShapes Go.WideShapes Go.ChangeAt Go.RowKit
set_option linter.unusedVariables false
set_option linter.unusedSimpArgs false

section
variable {w : World} {g M : Nat} {st : List Int}

theorem rstate_any (c : Int) (h : DkAt 106 w g M st) : Calls Try.prog 34 #[.pointer (some ⟨g, 0, none⟩), .int .i64 c] w fun e w' => e = .returned (.int .i64 (dSt M st c)) ∧ w = w' := by
  have h0 := h.cell0
  have hm := h.most
  by_cases hc : c < 0
  · have HD := Lib.hid (show dSt M st c = 0 by unfold dSt; rw [if_pos (.inl hc)])
    rw [HD.out]
    clear h
    go_enter Try.func34, Try.ntmps34
    go_wp2
    go_ret
    exact ⟨rfl, rfl⟩
  · obtain ⟨k, rfl⟩ := Int.eq_ofNat_of_zero_le (show 0 ≤ c by omega)
    by_cases hk : k < M
    · have hx := h.cell k (by omega)
      rw [dSt_in hk]
      obtain ⟨x, hX⟩ : ∃ x, st.getD k 0 = x := ⟨_, rfl⟩
      rw [hX] at hx ⊢
      have hlt : ¬ (M : Int) ≤ (k : Int) := by omega
      clear h hX
      go_enter Try.func34, Try.ntmps34
      go_wp2
      go_ret
      exact ⟨rfl, rfl⟩
    · have HD := Lib.hid (show dSt M st (k : Int) = 0 by unfold dSt; rw [if_pos (.inr (by omega))])
      rw [HD.out]
      have hlt : (M : Int) ≤ (k : Int) := by omega
      clear h
      go_enter Try.func34, Try.ntmps34
      go_wp2
      go_ret
      exact ⟨rfl, rfl⟩

set_option maxRecDepth 100000 in
set_option maxHeartbeats 1000000 in
theorem rend_yes (k : Nat) (h : DkAt 106 w g M st) (hk : k < M) (hv : st.getD k 0 = 1) : Calls Try.prog 32 #[.pointer (some ⟨g, 0, none⟩), .int .i64 (k : Int)] w fun e w' => e = .returned (.bool true) ∧ DkAt 106 w' g M (st.set k 2) ∧ Off (fun i => i = g) w w' := by
  have hm := h.most
  have CS := Lib.hid (rstate_any (k : Int) h)
  rw [dSt_in hk] at CS
  have hc1 := h.cell k (by omega)
  have hf1 := h.frozen (1 + k)
  obtain ⟨x, hX⟩ : ∃ x, st.getD k 0 = x := ⟨_, rfl⟩
  rw [hX] at CS hv hc1
  have hxb : (x != 1) = false := by simp [hv]
  have HD := Lib.hid (h.set k hk 2)
  have HO := Lib.hid ((Off.refl (fun i => i = g) w).setCell (p := ⟨g, 1 + k, none⟩) (.inl rfl) (.int .i64 2))
  clear hX h
  go_enter Try.func32, Try.ntmps32
  go_wp2_with (first
    | (go_at_call 34; (with_reducible refine CS.out.mono ?_); rintro e w1 ⟨rfl, rfl⟩))
  go_ret
  exact ⟨rfl, HD.out, HO.out⟩

set_option maxRecDepth 100000 in
set_option maxHeartbeats 1000000 in
theorem rend_no (c : Int) (h : DkAt 106 w g M st) (hv : dSt M st c ≠ 1) : Calls Try.prog 32 #[.pointer (some ⟨g, 0, none⟩), .int .i64 c] w fun e w' => e = .returned (.bool false) ∧ w = w' := by
  have CS := Lib.hid (rstate_any c h)
  obtain ⟨x, hX⟩ : ∃ x, dSt M st c = x := ⟨_, rfl⟩
  rw [hX] at CS hv
  have hxb : (x != 1) = true := by simp [hv]
  clear hX h
  go_enter Try.func32, Try.ntmps32
  go_wp2_with (first
    | (go_at_call 34; (with_reducible refine CS.out.mono ?_); rintro e w1 ⟨rfl, rfl⟩))
  go_ret
  exact ⟨rfl, rfl⟩

set_option maxRecDepth 100000 in
set_option maxHeartbeats 1000000 in
theorem rclose_yes (k : Nat) (h : DkAt 106 w g M st) (hk : k < M) (hv : st.getD k 0 ≠ 0) : Calls Try.prog 30 #[.pointer (some ⟨g, 0, none⟩), .int .i64 (k : Int)] w fun e w' => e = .returned (.bool true) ∧ DkAt 106 w' g M (st.set k 0) ∧ Off (fun i => i = g) w w' := by
  have hm := h.most
  have CS := Lib.hid (rstate_any (k : Int) h)
  rw [dSt_in hk] at CS
  have hc1 := h.cell k (by omega)
  have hf1 := h.frozen (1 + k)
  obtain ⟨x, hX⟩ : ∃ x, st.getD k 0 = x := ⟨_, rfl⟩
  rw [hX] at CS hv hc1
  have hxb : (x == 0) = false := by simp [hv]
  have HD := Lib.hid (h.set k hk 0)
  have HO := Lib.hid ((Off.refl (fun i => i = g) w).setCell (p := ⟨g, 1 + k, none⟩) (.inl rfl) (.int .i64 0))
  clear hX h
  go_enter Try.func30, Try.ntmps30
  go_wp2_with (first
    | (go_at_call 34; (with_reducible refine CS.out.mono ?_); rintro e w1 ⟨rfl, rfl⟩))
  go_ret
  exact ⟨rfl, HD.out, HO.out⟩

set_option maxRecDepth 100000 in
set_option maxHeartbeats 1000000 in
theorem rclose_no (c : Int) (h : DkAt 106 w g M st) (hv : dSt M st c = 0) : Calls Try.prog 30 #[.pointer (some ⟨g, 0, none⟩), .int .i64 c] w fun e w' => e = .returned (.bool false) ∧ w = w' := by
  have CS := Lib.hid (rstate_any c h)
  obtain ⟨x, hX⟩ : ∃ x, dSt M st c = x := ⟨_, rfl⟩
  rw [hX] at CS hv
  have hxb : (x == 0) = true := by simp [hv]
  clear hX h
  go_enter Try.func30, Try.ntmps30
  go_wp2_with (first
    | (go_at_call 34; (with_reducible refine CS.out.mono ?_); rintro e w1 ⟨rfl, rfl⟩))
  go_ret
  exact ⟨rfl, rfl⟩

set_option maxRecDepth 100000 in
set_option maxHeartbeats 1000000 in
theorem ropen_yes (k : Nat) (h : DkAt 106 w g M st) (hk : k < M) (hbef : ∀ j, j < k → st.getD j 0 ≠ 0) (hv : st.getD k 0 = 0) : Calls Try.prog 28 #[.pointer (some ⟨g, 0, none⟩)] w fun e w' => e = .returned (.tuple #[.int .i64 (k : Int), .bool true]) ∧ DkAt 106 w' g M (st.set k 1) ∧ Off (fun i => i = g) w w' := by
  have hm := h.most
  have h0 := h.cell0
  have HCL := Lib.hid (fun j hj => h.cell j hj)
  have HBF := Lib.hid hbef
  have hf1 := h.frozen (1 + k)
  have HD := Lib.hid (h.set k hk 1)
  have HO := Lib.hid ((Off.refl (fun i => i = g) w).setCell (p := ⟨g, 1 + k, none⟩) (.inl rfl) (.int .i64 1))
  clear h hbef
  go_enter Try.func28, Try.ntmps28
  go_wp2
  go_loopw [4] (fun i wr => ∃ j : Nat, j ≤ k ∧ i = .int .i64 (j : Int) ∧ w = wr) (fun i _ => 32 - (intOf i).toNat)
  case atStart => exact ⟨0, by omega, rfl, rfl⟩
  case round =>
    obtain ⟨j, hj, rfl, rfl⟩ := hrel
    have hji : (j : Int) < (M : Int) := by omega
    have hcj := HCL.out j (by omega)
    by_cases hlt : j < k
    · have hne := HBF.out j hlt
      obtain ⟨x, hX⟩ : ∃ x, st.getD j 0 = x := ⟨_, rfl⟩
      rw [hX] at hcj hne
      have hxb : (x == 0) = false := by simp [hne]
      clear hX hv
      go_wp2_with fail
      go_roundw
      case rel => exact ⟨j + 1, by omega, by go_num, by first | rfl | trivial⟩
      case measure => simp [intOf]; omega
    · obtain rfl : j = k := by omega
      rw [hv] at hcj
      clear hv
      go_wp2_with fail
      exact bodyPost_ret (v := .tuple #[.int .i64 (j : Int), .bool true]) (by simp [results, Try.results28, go_sem]) rfl ⟨rfl, HD.out, HO.out⟩

set_option maxRecDepth 100000 in
set_option maxHeartbeats 1000000 in
theorem ropen_no (h : DkAt 106 w g M st) (hbef : ∀ j, j < M → st.getD j 0 ≠ 0) : Calls Try.prog 28 #[.pointer (some ⟨g, 0, none⟩)] w fun e w' => e = .returned (.tuple #[.int .i64 0, .bool false]) ∧ w = w' := by
  have hm := h.most
  have h0 := h.cell0
  have HCL := Lib.hid (fun j hj => h.cell j hj)
  have HBF := Lib.hid hbef
  clear h hbef
  go_enter Try.func28, Try.ntmps28
  go_wp2
  go_loopw [4] (fun i wr => ∃ j : Nat, j ≤ M ∧ i = .int .i64 (j : Int) ∧ w = wr) (fun i _ => 32 - (intOf i).toNat)
  case atStart => exact ⟨0, by omega, rfl, rfl⟩
  case round =>
    obtain ⟨j, hj, rfl, rfl⟩ := hrel
    by_cases hlt : j < M
    · have hji : (j : Int) < (M : Int) := by omega
      have hcj := HCL.out j (by omega)
      have hne := HBF.out j hlt
      obtain ⟨x, hX⟩ : ∃ x, st.getD j 0 = x := ⟨_, rfl⟩
      rw [hX] at hcj hne
      have hxb : (x == 0) = false := by simp [hne]
      clear hX
      go_wp2_with fail
      go_roundw
      case rel => exact ⟨j + 1, by omega, by go_num, by first | rfl | trivial⟩
      case measure => simp [intOf]; omega
    · have hji : ¬ (j : Int) < (M : Int) := by omega
      go_wp2_with fail
      exact bodyPost_ret (v := .tuple #[.int .i64 0, .bool false]) (by simp [results, Try.results28, go_sem]) rfl ⟨rfl, rfl⟩

set_option maxRecDepth 100000 in
set_option maxHeartbeats 1000000 in
theorem rmany_any (h : DkAt 106 w g M st) : Calls Try.prog 36 #[.pointer (some ⟨g, 0, none⟩)] w fun e w' => e = .returned (.int .i64 (nz st : Int)) ∧ w = w' := by
  have hm := h.most
  have h0 := h.cell0
  have HCL := Lib.hid (fun j hj => h.cell j hj)
  have HLN := Lib.hid h.len
  have HE := Lib.hid (nz_all st M h.tail)
  clear h
  go_enter Try.func36, Try.ntmps36
  go_wp2
  go_loopw [3, 4] (fun n i wr => ∃ k : Nat, k ≤ M ∧ i = .int .i64 (k : Int) ∧ n = .int .i64 (nz (st.take k) : Int) ∧ w = wr) (fun _ i _ => 32 - (intOf i).toNat)
  case atStart => exact ⟨0, by omega, rfl, rfl, rfl⟩
  case round =>
    obtain ⟨k, hk, rfl, rfl, rfl⟩ := hrel
    have hle := nz_le st k
    by_cases hlt : k < M
    · have hki : (k : Int) < (M : Int) := by omega
      have HN := Lib.hid (nz_take st k (by have := HLN.out; omega))
      have hcj := HCL.out k (by omega)
      obtain ⟨x, hX⟩ : ∃ x, st.getD k 0 = x := ⟨_, rfl⟩
      rw [hX] at HN hcj
      clear hX
      obtain ⟨y, hY⟩ : ∃ y, nz (st.take k) = y := ⟨_, rfl⟩
      rw [hY] at hle HN ⊢
      clear hY
      by_cases h0 : x = 0
      · subst h0
        go_wp2_with fail
        go_roundw
        case rel => exact ⟨k + 1, by omega, by go_num, by rw [HN.out]; rfl, by first | rfl | trivial⟩
        case measure => simp [intOf]; omega
      · have hb : (x != 0) = true := by simp [h0]
        have hb2 : (x == 0) = false := by simp [h0]
        go_wp2_with fail
        go_roundw
        case rel => exact ⟨k + 1, by omega, by go_num, by rw [HN.out, hb]; go_num, by first | rfl | trivial⟩
        case measure => simp [intOf]; omega
    · obtain rfl : k = M := by omega
      have hki : ¬ (k : Int) < (k : Int) := by omega
      go_wp2_with fail
      go_ret
      exact ⟨by rw [HE.out]; rfl, rfl⟩
end

theorem new_rd (w w' : World) (M : Nat) (hM : M ≤ 32) (h : w' = w.alloc (.cells #[.int .i64 (M : Int), .int .i64 0, .int .i64 0, .int .i64 0, .int .i64 0, .int .i64 0, .int .i64 0, .int .i64 0, .int .i64 0, .int .i64 0, .int .i64 0, .int .i64 0, .int .i64 0, .int .i64 0, .int .i64 0, .int .i64 0, .int .i64 0, .int .i64 0, .int .i64 0, .int .i64 0, .int .i64 0, .int .i64 0, .int .i64 0, .int .i64 0, .int .i64 0, .int .i64 0, .int .i64 0, .int .i64 0, .int .i64 0, .int .i64 0, .int .i64 0, .int .i64 0, .int .i64 0] 106)) :
    DkAt 106 w' w.heap.size M (List.replicate 32 0) ∧ Below w.heap.size w w' := by
  subst h
  refine ⟨⟨hM, rfl, heap_alloc_new w _, fun j _ => ?_⟩, (Below.refl _ _).alloc (Nat.le_refl _) _⟩
  rw [List.getD_eq_getElem?_getD, List.getElem?_replicate]
  split <;> rfl
set_option maxRecDepth 100000 in
set_option maxHeartbeats 1000000 in
theorem rdnew_any (most : Int) (M : Nat) (w : World) (hM : (M : Int) = if 32 < (if most < 0 then 0 else most) then 32 else (if most < 0 then 0 else most)) :
    Calls Try.prog 25 #[.int .i64 most] w fun e w' => e = .returned (.pointer (some ⟨w.heap.size, 0, none⟩)) ∧ DkAt 106 w' w.heap.size M (List.replicate 32 0) ∧ Below w.heap.size w w' := by
  have hM2 : M ≤ 32 := by split at hM <;> split at hM <;> omega
  by_cases hn : most < 0
  · obtain rfl : M = 0 := by rw [if_pos hn] at hM; simp at hM; omega
    have HN := Lib.hid (new_rd w _ 0 hM2 rfl)
    clear hM hM2
    go_enter Try.func25, Try.ntmps25
    go_wp2
    go_ret
    exact ⟨rfl, HN.out⟩
  · by_cases hx : 32 < most
    · obtain rfl : M = 32 := by rw [if_neg hn, if_pos hx] at hM; omega
      have HN := Lib.hid (new_rd w _ 32 hM2 rfl)
      clear hM hM2
      go_enter Try.func25, Try.ntmps25
      go_wp2
      go_ret
      exact ⟨rfl, HN.out⟩
    · obtain rfl : most = (M : Int) := by rw [if_neg hn, if_neg hx] at hM; omega
      have HN := Lib.hid (new_rd w _ M hM2 rfl)
      clear hM
      go_enter Try.func25, Try.ntmps25
      go_wp2
      go_ret
      exact ⟨rfl, HN.out⟩

end Go.Proofs.Ytokljdkbheogoaa

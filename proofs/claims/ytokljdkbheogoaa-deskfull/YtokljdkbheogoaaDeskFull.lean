/- Proved: for every two ints and a bool, busbarlaw11.DeskFull returns true. Conditions: none. -/
import Derived.Test.YtokljdkbheogoaaDAwake
namespace Go.Proofs.Ytokljdkbheogoaa.deskFull
open Go.ChangeShapes Go.WideShapes Go.ChangeAt Go.RowKit
open Go.ChangeMaps (open_string shut_string)
set_option linter.unusedVariables false      -- a walk need not use every 'w<i>' (that an integer argument fits its kind)


/-- c places Live, the others Free. -/
def lst (c : Nat) : List Int := List.replicate c 1 ++ List.replicate (32 - c) 0
theorem lst_lt {c j : Nat} (h : j < c) : (lst c).getD j 0 = 1 := by
  unfold lst
  rw [List.getD_eq_getElem?_getD, List.getElem?_append_left (by simpa using h), List.getElem?_replicate, if_pos h]
  rfl
theorem lst_ge {c j : Nat} (h : c ≤ j) : (lst c).getD j 0 = 0 := by
  unfold lst
  rw [List.getD_eq_getElem?_getD, List.getElem?_append_right (by simpa using h), List.getElem?_replicate]
  split <;> rfl
theorem lst_set {c : Nat} (h : c < 32) : (lst c).set c 1 = lst (c + 1) := by
  unfold lst
  obtain ⟨r, hr⟩ : ∃ r, 32 - c = r + 1 := ⟨31 - c, by omega⟩
  rw [hr, show 32 - (c + 1) = r by omega, List.replicate_succ, List.replicate_succ']
  rw [List.set_append_right _ _ (by simp)]
  simp
theorem lst_nz {c : Nat} : nz (lst c) = c := by
  unfold lst nz
  rw [List.countP_append, List.countP_replicate, List.countP_replicate]
  simp
theorem set_same {st : List Int} {k : Nat} (v : Int) (h : k < st.length) : (st.set k v).getD k 0 = v := by
  rw [List.getD_eq_getElem?_getD, List.getElem?_set_self h]; rfl
theorem set_other {st : List Int} {k j : Nat} (v : Int) (h : k ≠ j) : (st.set k v).getD j 0 = st.getD j 0 := by
  rw [List.getD_eq_getElem?_getD, List.getElem?_set_ne h, ← List.getD_eq_getElem?_getD]

set_option maxRecDepth 100000 in
set_option maxHeartbeats 4000000 in
theorem walk_0 (a0 a1 : Int) (a2 : Bool) (m M : Nat) (w : World) (b0 : -9223372036854775808 ≤ a0 ∧ a0 ≤ 9223372036854775807) (b1 : -9223372036854775808 ≤ a1 ∧ a1 ≤ 9223372036854775807)
    (hm : a0 % 34 = (m : Int)) (hM : M = m) (hm3 : m ≤ 32) (h0 : m = 0) :
    Calls Try.prog 7 #[.int .i64 a0, .int .i64 a1, .bool a2] w fun e w' => e = .returned (.bool true) ∧ Below w.heap.size w w' := by
  have CW0 := Lib.hid (fun W => within_any a0 34 W b0.1 b0.2 (by omega) (by omega))
  rw [hm] at CW0
  have hm33 : m ≤ 33 := by omega
  have hM32 : M ≤ 32 := by omega
  have CN := Lib.hid (fun W => dnew_any (m : Int) M W (by rw [if_neg (show ¬ (m : Int) < 0 by omega)]; rw [if_neg (show ¬ (32 : Int) < (m : Int) by omega), hM]))
  have hmi : ¬ (32 : Int) < (m : Int) := by omega
  have hmz : ((m : Int) == 0) = true := beq_iff_eq.2 (by omega)
  have HM := Lib.hid hM
  have H0 := Lib.hid h0
  have H3 := Lib.hid hm3
  clear hm b0 b1 hM h0 hm3
  go_enter Try.func7, Try.ntmps7
  go_wp2_with (first
    | (go_at_call 23; refine (dawake_any _).mono ?_; rintro e w1 ⟨rfl, hb⟩; have HB1 := Lib.hid hb; clear hb)
    | (go_at_call 10; (with_reducible refine (CW0.out _).mono ?_); rintro e w' ⟨rfl, rfl⟩)
    | (go_at_call 24
       (with_reducible refine (CN.out _).mono ?_)
       rintro e w2 ⟨rfl, hd, hb⟩
       have HB2 := Lib.hid (HB1.out.trans (hb.mono HB1.out.size))
       have HD2 := Lib.hid hd
       have HGE := Lib.hid HB1.out.size
       obtain ⟨g, hg⟩ : ∃ g, w1.heap.size = g := ⟨_, rfl⟩
       rw [hg] at HD2 HGE
       rw [hg]
       clear hd hb hg))
  go_loopw [8] (fun i wr => ∃ k : Nat, k ≤ M ∧ i = .int .i64 (k : Int) ∧ Hid (DkAt 104 wr g M (lst k)) ∧ Hid (Below w.heap.size w wr)) (fun i _ => 32 - (intOf i).toNat)
  case atStart => exact ⟨0, by omega, rfl, HD2, HB2⟩
  case round =>
    obtain ⟨k, hk, rfl, HD, HB⟩ := hrel
    by_cases hlt : k < M
    · have hki : (k : Int) < (m : Int) := by have := HM.out; omega
      have C1 := Lib.hid (open_yes k HD.out hlt (fun j hj => by rw [lst_lt hj]; decide) (lst_ge (Nat.le_refl k)))
      rw [lst_set (by omega)] at C1
      have HSt : Hid (dSt M (lst (k + 1)) (k : Int) = 1) := by show _ = _; rw [dSt_in hlt]; exact lst_lt (Nat.lt_succ_self k)
      have HNZ : Hid (((nz (lst (k + 1)) : Nat) : Int) = (k : Int) + 1) := by show _ = _; rw [lst_nz]; rfl
      have HLT := Lib.hid hlt
      clear hlt
      go_wp2_with (first
        | (go_at_call 27
           (with_reducible refine C1.out.mono ?_)
           rintro e w3 ⟨rfl, hd, ho⟩
           have HB3 : Hid (Below w.heap.size w w3) := below_one HB.out HB.out.size ho HGE.out
           have C2 := Lib.hid (state_any (k : Int) hd)
           rw [HSt.out] at C2
           have C3 := Lib.hid (many_any hd)
           rw [HNZ.out] at C3
           have HD3 := Lib.hid hd
           clear hd ho)
        | (go_at_call 33; (with_reducible refine C2.out.mono ?_); rintro e w4 ⟨rfl, rfl⟩)
        | (go_at_call 35
           (with_reducible refine C3.out.mono ?_)
           rintro e w5 ⟨rfl, hb⟩
           have HD5 := Lib.hid (HD3.out.below hb)
           have HB5 := Lib.hid (HB3.out.trans (hb.mono HB3.out.size))
           clear hb))
      go_roundw
      case rel => exact ⟨k + 1, by have := HLT.out; omega, by go_num, HD5, HB5⟩
      case measure => simp [intOf]; omega
    · obtain ⟨S, hS⟩ : ∃ S, S = lst k := ⟨_, rfl⟩
      have hkM : k = M := by omega
      have hki : ¬ (k : Int) < (m : Int) := by have := HM.out; omega
      have HAL : Hid (∀ j, j < M → (lst k).getD j 0 = 1) := fun j hj => lst_lt (by omega)
      have C1 := Lib.hid (open_no HD.out (fun j hj => by rw [HAL.out j hj]; decide))
      have HKM := Lib.hid hkM
      clear hkM hlt hk hS
      have C2 := Lib.hid (close_no 0 HD.out (by unfold dSt; rw [if_pos (.inr (by have := HM.out; have := H0.out; omega))]))
      have C3 := Lib.hid (many_any HD.out)
      rw [show ((nz (lst k) : Nat) : Int) = 0 by rw [lst_nz]; have := HKM.out; have := HM.out; have := H0.out; omega] at C3
      go_wp2_with (first
        | (go_at_call 27; (with_reducible refine C1.out.mono ?_); rintro e w3 ⟨rfl, rfl⟩)
        | (go_at_call 29; (with_reducible refine C2.out.mono ?_); rintro e w3 ⟨rfl, rfl⟩)
        | (go_at_call 35
           (with_reducible refine C3.out.mono ?_)
           rintro e w5 ⟨rfl, hb⟩
           have HB5 := Lib.hid (HB.out.trans (hb.mono HB.out.size))
           clear hb))
      go_ret
      exact ⟨rfl, HB5.out⟩

set_option maxRecDepth 100000 in
set_option maxHeartbeats 4000000 in
theorem walk_m (a0 a1 : Int) (a2 : Bool) (m M C : Nat) (w : World) (b0 : -9223372036854775808 ≤ a0 ∧ a0 ≤ 9223372036854775807) (b1 : -9223372036854775808 ≤ a1 ∧ a1 ≤ 9223372036854775807)
    (hm : a0 % 34 = (m : Int)) (hM : M = m) (hm3 : m ≤ 32) (h0 : 0 < m) (hC : a1 % (M : Int) = (C : Int)) :
    Calls Try.prog 7 #[.int .i64 a0, .int .i64 a1, .bool a2] w fun e w' => e = .returned (.bool true) ∧ Below w.heap.size w w' := by
  have CW0 := Lib.hid (fun W => within_any a0 34 W b0.1 b0.2 (by omega) (by omega))
  rw [hm] at CW0
  have hm33 : m ≤ 33 := by omega
  have hM32 : M ≤ 32 := by omega
  have CN := Lib.hid (fun W => dnew_any (m : Int) M W (by rw [if_neg (show ¬ (m : Int) < 0 by omega)]; rw [if_neg (show ¬ (32 : Int) < (m : Int) by omega), hM]))
  have hmi : ¬ (32 : Int) < (m : Int) := by omega
  have hC2 : C < M := by have := Int.emod_lt_of_pos a1 (show 0 < (M : Int) by omega); omega
  have CW1 := Lib.hid (fun W => within_any a1 (m : Int) W b1.1 b1.2 (by omega) (by omega))
  rw [show (m : Int) = (M : Int) by rw [hM], hC] at CW1
  rw [hM] at CW1
  have hmz : ((m : Int) == 0) = false := beq_eq_false_iff_ne.2 (by omega)
  have HM := Lib.hid hM
  have H0 := Lib.hid h0
  have H3 := Lib.hid hm3
  clear hm b0 b1 hC hM h0 hm3
  go_enter Try.func7, Try.ntmps7
  go_wp2_with (first
    | (go_at_call 23; refine (dawake_any _).mono ?_; rintro e w1 ⟨rfl, hb⟩; have HB1 := Lib.hid hb; clear hb)
    | (go_at_call 10; (with_reducible refine (CW0.out _).mono ?_); rintro e w' ⟨rfl, rfl⟩)
    | (go_at_call 24
       (with_reducible refine (CN.out _).mono ?_)
       rintro e w2 ⟨rfl, hd, hb⟩
       have HB2 := Lib.hid (HB1.out.trans (hb.mono HB1.out.size))
       have HD2 := Lib.hid hd
       have HGE := Lib.hid HB1.out.size
       obtain ⟨g, hg⟩ : ∃ g, w1.heap.size = g := ⟨_, rfl⟩
       rw [hg] at HD2 HGE
       rw [hg]
       clear hd hb hg))
  go_loopw [8] (fun i wr => ∃ k : Nat, k ≤ M ∧ i = .int .i64 (k : Int) ∧ Hid (DkAt 104 wr g M (lst k)) ∧ Hid (Below w.heap.size w wr)) (fun i _ => 32 - (intOf i).toNat)
  case atStart => exact ⟨0, by omega, rfl, HD2, HB2⟩
  case round =>
    obtain ⟨k, hk, rfl, HD, HB⟩ := hrel
    by_cases hlt : k < M
    · have hki : (k : Int) < (m : Int) := by have := HM.out; omega
      have C1 := Lib.hid (open_yes k HD.out hlt (fun j hj => by rw [lst_lt hj]; decide) (lst_ge (Nat.le_refl k)))
      rw [lst_set (by omega)] at C1
      have HSt : Hid (dSt M (lst (k + 1)) (k : Int) = 1) := by show _ = _; rw [dSt_in hlt]; exact lst_lt (Nat.lt_succ_self k)
      have HNZ : Hid (((nz (lst (k + 1)) : Nat) : Int) = (k : Int) + 1) := by show _ = _; rw [lst_nz]; rfl
      have HLT := Lib.hid hlt
      clear hlt
      go_wp2_with (first
        | (go_at_call 27
           (with_reducible refine C1.out.mono ?_)
           rintro e w3 ⟨rfl, hd, ho⟩
           have HB3 : Hid (Below w.heap.size w w3) := below_one HB.out HB.out.size ho HGE.out
           have C2 := Lib.hid (state_any (k : Int) hd)
           rw [HSt.out] at C2
           have C3 := Lib.hid (many_any hd)
           rw [HNZ.out] at C3
           have HD3 := Lib.hid hd
           clear hd ho)
        | (go_at_call 33; (with_reducible refine C2.out.mono ?_); rintro e w4 ⟨rfl, rfl⟩)
        | (go_at_call 35
           (with_reducible refine C3.out.mono ?_)
           rintro e w5 ⟨rfl, hb⟩
           have HD5 := Lib.hid (HD3.out.below hb)
           have HB5 := Lib.hid (HB3.out.trans (hb.mono HB3.out.size))
           clear hb))
      go_roundw
      case rel => exact ⟨k + 1, by have := HLT.out; omega, by go_num, HD5, HB5⟩
      case measure => simp [intOf]; omega
    · obtain ⟨S, hS⟩ : ∃ S, S = lst k := ⟨_, rfl⟩
      have hkM : k = M := by omega
      have hki : ¬ (k : Int) < (m : Int) := by have := HM.out; omega
      have HAL : Hid (∀ j, j < M → (lst k).getD j 0 = 1) := fun j hj => lst_lt (by omega)
      have C1 := Lib.hid (open_no HD.out (fun j hj => by rw [HAL.out j hj]; decide))
      have HKM := Lib.hid hkM
      clear hkM hlt hk hS
      have HC2 := Lib.hid hC2
      cases a2
      · have CC := Lib.hid (close_yes C HD.out hC2 (by rw [HAL.out C hC2]; decide))
        clear hC2
        go_wp2_with (first
          | (go_at_call 10; (with_reducible refine (CW1.out _).mono ?_); rintro e w' ⟨rfl, rfl⟩)
          | (go_at_call 27; (with_reducible refine C1.out.mono ?_); rintro e w3 ⟨rfl, rfl⟩)
          | (go_at_call 29
             (with_reducible refine CC.out.mono ?_)
             rintro e w6 ⟨rfl, hd, ho⟩
             have HB6 : Hid (Below w.heap.size w w6) := below_one HB.out HB.out.size ho HGE.out
             have hlen : (lst k).length = 32 := by have := HD.out.len; simpa using this
             have hs0 : ((lst k).set C 0).getD C 0 = 0 := set_same 0 (by have := HC2.out; omega)
             have hst : dSt M ((lst k).set C 0) (C : Int) = 0 := by rw [dSt_in HC2.out]; exact hs0
             have CC2 := Lib.hid (close_no (C : Int) hd hst)
             have CS2 := Lib.hid (state_any (C : Int) hd)
             rw [hst] at CS2
             have CO2 := Lib.hid (open_yes C hd HC2.out (fun j hj => by
               have hj : j < M := by have := HC2.out; omega
               rw [set_other 0 (by omega)]; exact (by rw [HAL.out j hj]; decide)) hs0)
             have HLN := Lib.hid hlen
             clear hd ho hst hs0 hlen)
          | (go_at_call 29; (with_reducible refine CC2.out.mono ?_); rintro e w7 ⟨rfl, rfl⟩)
          | (go_at_call 33; (with_reducible refine CS2.out.mono ?_); rintro e w7 ⟨rfl, rfl⟩)
          | (go_at_call 27
             (with_reducible refine CO2.out.mono ?_)
             rintro e w8 ⟨rfl, hd, ho⟩
             have HB8 : Hid (Below w.heap.size w w8) := below_one HB6.out HB6.out.size ho HGE.out
             have hst : dSt M (((lst k).set C 0).set C 1) (C : Int) = 1 := by rw [dSt_in HC2.out]; exact set_same 1 (by rw [List.length_set]; have := HLN.out; have := HC2.out; omega)
             have CS3 := Lib.hid (state_any (C : Int) hd)
             rw [hst] at CS3
             clear hd ho hst)
          | (go_at_call 33; (with_reducible refine CS3.out.mono ?_); rintro e w9 ⟨rfl, rfl⟩))
        go_ret
        exact ⟨rfl, HB8.out⟩
      · have CE := Lib.hid (end_yes C HD.out hC2 (HAL.out C hC2))
        clear hC2
        go_wp2_with (first
          | (go_at_call 10; (with_reducible refine (CW1.out _).mono ?_); rintro e w' ⟨rfl, rfl⟩)
          | (go_at_call 27; (with_reducible refine C1.out.mono ?_); rintro e w3 ⟨rfl, rfl⟩)
          | (go_at_call 31
             (with_reducible refine CE.out.mono ?_)
             rintro e w4 ⟨rfl, hd, ho⟩
             have HB4 : Hid (Below w.heap.size w w4) := below_one HB.out HB.out.size ho HGE.out
             have hst : dSt M ((lst k).set C 2) (C : Int) = 2 := by rw [dSt_in HC2.out]; exact set_same 2 (by have := HD.out.len; have := HC2.out; omega)
             have CE2 := Lib.hid (end_no (C : Int) hd (by rw [hst]; decide))
             have CS := Lib.hid (state_any (C : Int) hd)
             rw [hst] at CS
             have hal : ∀ j, j < M → ((lst k).set C 2).getD j 0 ≠ 0 := fun j hj => by
               by_cases e : C = j
               · subst e; rw [set_same 2 (by have := HD.out.len; omega)]; decide
               · rw [set_other 2 e, HAL.out j hj]; decide
             have HAL2 := Lib.hid hal
             have CO := Lib.hid (open_no hd hal)
             have CC := Lib.hid (close_yes C hd HC2.out (hal C HC2.out))
             clear hd ho hst hal)
          | (go_at_call 31; (with_reducible refine CE2.out.mono ?_); rintro e w5 ⟨rfl, rfl⟩)
          | (go_at_call 33; (with_reducible refine CS.out.mono ?_); rintro e w5 ⟨rfl, rfl⟩)
          | (go_at_call 27; (with_reducible refine CO.out.mono ?_); rintro e w3 ⟨rfl, rfl⟩)
          | (go_at_call 29
             (with_reducible refine CC.out.mono ?_)
             rintro e w6 ⟨rfl, hd, ho⟩
             have HB6 : Hid (Below w.heap.size w w6) := below_one HB4.out HB4.out.size ho HGE.out
             have hlen : ((lst k).set C 2).length = 32 := by have := HD.out.len; simpa using this
             have hs0 : (((lst k).set C 2).set C 0).getD C 0 = 0 := set_same 0 (by have := HC2.out; omega)
             have hst : dSt M (((lst k).set C 2).set C 0) (C : Int) = 0 := by rw [dSt_in HC2.out]; exact hs0
             have CC2 := Lib.hid (close_no (C : Int) hd hst)
             have CS2 := Lib.hid (state_any (C : Int) hd)
             rw [hst] at CS2
             have CO2 := Lib.hid (open_yes C hd HC2.out (fun j hj => by
               have hj : j < M := by have := HC2.out; omega
               rw [set_other 0 (by omega)]; exact HAL2.out j hj) hs0)
             have HLN := Lib.hid hlen
             clear hd ho hst hs0 hlen)
          | (go_at_call 29; (with_reducible refine CC2.out.mono ?_); rintro e w7 ⟨rfl, rfl⟩)
          | (go_at_call 33; (with_reducible refine CS2.out.mono ?_); rintro e w7 ⟨rfl, rfl⟩)
          | (go_at_call 27
             (with_reducible refine CO2.out.mono ?_)
             rintro e w8 ⟨rfl, hd, ho⟩
             have HB8 : Hid (Below w.heap.size w w8) := below_one HB6.out HB6.out.size ho HGE.out
             have hst : dSt M ((((lst k).set C 2).set C 0).set C 1) (C : Int) = 1 := by rw [dSt_in HC2.out]; exact set_same 1 (by rw [List.length_set]; have := HLN.out; have := HC2.out; omega)
             have CS3 := Lib.hid (state_any (C : Int) hd)
             rw [hst] at CS3
             clear hd ho hst)
          | (go_at_call 33; (with_reducible refine CS3.out.mono ?_); rintro e w9 ⟨rfl, rfl⟩))
        go_ret
        exact ⟨rfl, HB8.out⟩

set_option maxRecDepth 100000 in
set_option maxHeartbeats 4000000 in
theorem walk_33 (a0 a1 : Int) (a2 : Bool) (m M C : Nat) (w : World) (b0 : -9223372036854775808 ≤ a0 ∧ a0 ≤ 9223372036854775807) (b1 : -9223372036854775808 ≤ a1 ∧ a1 ≤ 9223372036854775807)
    (hm : a0 % 34 = (m : Int)) (hM : M = 32) (hm3 : m = 33) (h0 : 0 < m) (hC : a1 % (M : Int) = (C : Int)) :
    Calls Try.prog 7 #[.int .i64 a0, .int .i64 a1, .bool a2] w fun e w' => e = .returned (.bool true) ∧ Below w.heap.size w w' := by
  have CW0 := Lib.hid (fun W => within_any a0 34 W b0.1 b0.2 (by omega) (by omega))
  rw [hm] at CW0
  have hm33 : m ≤ 33 := by omega
  have hM32 : M ≤ 32 := by omega
  have CN := Lib.hid (fun W => dnew_any (m : Int) M W (by rw [if_neg (show ¬ (m : Int) < 0 by omega)]; rw [if_pos (show (32 : Int) < (m : Int) by omega), hM]; rfl))
  have hmi : (32 : Int) < (m : Int) := by omega
  have hC2 : C < M := by have := Int.emod_lt_of_pos a1 (show 0 < (M : Int) by omega); omega
  have CW1 := Lib.hid (fun W => within_any a1 32 W b1.1 b1.2 (by omega) (by omega))
  rw [show a1 % 32 = (C : Int) by rw [← hC, hM]; rfl] at CW1
  have hmz : ((m : Int) == 0) = false := beq_eq_false_iff_ne.2 (by omega)
  have HM := Lib.hid hM
  have H0 := Lib.hid h0
  have H3 := Lib.hid hm3
  clear hm b0 b1 hC hM h0 hm3
  go_enter Try.func7, Try.ntmps7
  go_wp2_with (first
    | (go_at_call 23; refine (dawake_any _).mono ?_; rintro e w1 ⟨rfl, hb⟩; have HB1 := Lib.hid hb; clear hb)
    | (go_at_call 10; (with_reducible refine (CW0.out _).mono ?_); rintro e w' ⟨rfl, rfl⟩)
    | (go_at_call 24
       (with_reducible refine (CN.out _).mono ?_)
       rintro e w2 ⟨rfl, hd, hb⟩
       have HB2 := Lib.hid (HB1.out.trans (hb.mono HB1.out.size))
       have HD2 := Lib.hid hd
       have HGE := Lib.hid HB1.out.size
       obtain ⟨g, hg⟩ : ∃ g, w1.heap.size = g := ⟨_, rfl⟩
       rw [hg] at HD2 HGE
       rw [hg]
       clear hd hb hg))
  go_loopw [8] (fun i wr => ∃ k : Nat, k ≤ M ∧ i = .int .i64 (k : Int) ∧ Hid (DkAt 104 wr g M (lst k)) ∧ Hid (Below w.heap.size w wr)) (fun i _ => 32 - (intOf i).toNat)
  case atStart => exact ⟨0, by omega, rfl, HD2, HB2⟩
  case round =>
    obtain ⟨k, hk, rfl, HD, HB⟩ := hrel
    by_cases hlt : k < M
    · have hki : (k : Int) < 32 := by have := HM.out; omega
      have C1 := Lib.hid (open_yes k HD.out hlt (fun j hj => by rw [lst_lt hj]; decide) (lst_ge (Nat.le_refl k)))
      rw [lst_set (by omega)] at C1
      have HSt : Hid (dSt M (lst (k + 1)) (k : Int) = 1) := by show _ = _; rw [dSt_in hlt]; exact lst_lt (Nat.lt_succ_self k)
      have HNZ : Hid (((nz (lst (k + 1)) : Nat) : Int) = (k : Int) + 1) := by show _ = _; rw [lst_nz]; rfl
      have HLT := Lib.hid hlt
      clear hlt
      go_wp2_with (first
        | (go_at_call 27
           (with_reducible refine C1.out.mono ?_)
           rintro e w3 ⟨rfl, hd, ho⟩
           have HB3 : Hid (Below w.heap.size w w3) := below_one HB.out HB.out.size ho HGE.out
           have C2 := Lib.hid (state_any (k : Int) hd)
           rw [HSt.out] at C2
           have C3 := Lib.hid (many_any hd)
           rw [HNZ.out] at C3
           have HD3 := Lib.hid hd
           clear hd ho)
        | (go_at_call 33; (with_reducible refine C2.out.mono ?_); rintro e w4 ⟨rfl, rfl⟩)
        | (go_at_call 35
           (with_reducible refine C3.out.mono ?_)
           rintro e w5 ⟨rfl, hb⟩
           have HD5 := Lib.hid (HD3.out.below hb)
           have HB5 := Lib.hid (HB3.out.trans (hb.mono HB3.out.size))
           clear hb))
      go_roundw
      case rel => exact ⟨k + 1, by have := HLT.out; omega, by go_num, HD5, HB5⟩
      case measure => simp [intOf]; omega
    · obtain ⟨S, hS⟩ : ∃ S, S = lst k := ⟨_, rfl⟩
      have hkM : k = M := by omega
      have hki : ¬ (k : Int) < 32 := by have := HM.out; omega
      have HAL : Hid (∀ j, j < M → (lst k).getD j 0 = 1) := fun j hj => lst_lt (by omega)
      have C1 := Lib.hid (open_no HD.out (fun j hj => by rw [HAL.out j hj]; decide))
      have HKM := Lib.hid hkM
      clear hkM hlt hk hS
      have HC2 := Lib.hid hC2
      cases a2
      · have CC := Lib.hid (close_yes C HD.out hC2 (by rw [HAL.out C hC2]; decide))
        clear hC2
        go_wp2_with (first
          | (go_at_call 10; (with_reducible refine (CW1.out _).mono ?_); rintro e w' ⟨rfl, rfl⟩)
          | (go_at_call 27; (with_reducible refine C1.out.mono ?_); rintro e w3 ⟨rfl, rfl⟩)
          | (go_at_call 29
             (with_reducible refine CC.out.mono ?_)
             rintro e w6 ⟨rfl, hd, ho⟩
             have HB6 : Hid (Below w.heap.size w w6) := below_one HB.out HB.out.size ho HGE.out
             have hlen : (lst k).length = 32 := by have := HD.out.len; simpa using this
             have hs0 : ((lst k).set C 0).getD C 0 = 0 := set_same 0 (by have := HC2.out; omega)
             have hst : dSt M ((lst k).set C 0) (C : Int) = 0 := by rw [dSt_in HC2.out]; exact hs0
             have CC2 := Lib.hid (close_no (C : Int) hd hst)
             have CS2 := Lib.hid (state_any (C : Int) hd)
             rw [hst] at CS2
             have CO2 := Lib.hid (open_yes C hd HC2.out (fun j hj => by
               have hj : j < M := by have := HC2.out; omega
               rw [set_other 0 (by omega)]; exact (by rw [HAL.out j hj]; decide)) hs0)
             have HLN := Lib.hid hlen
             clear hd ho hst hs0 hlen)
          | (go_at_call 29; (with_reducible refine CC2.out.mono ?_); rintro e w7 ⟨rfl, rfl⟩)
          | (go_at_call 33; (with_reducible refine CS2.out.mono ?_); rintro e w7 ⟨rfl, rfl⟩)
          | (go_at_call 27
             (with_reducible refine CO2.out.mono ?_)
             rintro e w8 ⟨rfl, hd, ho⟩
             have HB8 : Hid (Below w.heap.size w w8) := below_one HB6.out HB6.out.size ho HGE.out
             have hst : dSt M (((lst k).set C 0).set C 1) (C : Int) = 1 := by rw [dSt_in HC2.out]; exact set_same 1 (by rw [List.length_set]; have := HLN.out; have := HC2.out; omega)
             have CS3 := Lib.hid (state_any (C : Int) hd)
             rw [hst] at CS3
             clear hd ho hst)
          | (go_at_call 33; (with_reducible refine CS3.out.mono ?_); rintro e w9 ⟨rfl, rfl⟩))
        go_ret
        exact ⟨rfl, HB8.out⟩
      · have CE := Lib.hid (end_yes C HD.out hC2 (HAL.out C hC2))
        clear hC2
        go_wp2_with (first
          | (go_at_call 10; (with_reducible refine (CW1.out _).mono ?_); rintro e w' ⟨rfl, rfl⟩)
          | (go_at_call 27; (with_reducible refine C1.out.mono ?_); rintro e w3 ⟨rfl, rfl⟩)
          | (go_at_call 31
             (with_reducible refine CE.out.mono ?_)
             rintro e w4 ⟨rfl, hd, ho⟩
             have HB4 : Hid (Below w.heap.size w w4) := below_one HB.out HB.out.size ho HGE.out
             have hst : dSt M ((lst k).set C 2) (C : Int) = 2 := by rw [dSt_in HC2.out]; exact set_same 2 (by have := HD.out.len; have := HC2.out; omega)
             have CE2 := Lib.hid (end_no (C : Int) hd (by rw [hst]; decide))
             have CS := Lib.hid (state_any (C : Int) hd)
             rw [hst] at CS
             have hal : ∀ j, j < M → ((lst k).set C 2).getD j 0 ≠ 0 := fun j hj => by
               by_cases e : C = j
               · subst e; rw [set_same 2 (by have := HD.out.len; omega)]; decide
               · rw [set_other 2 e, HAL.out j hj]; decide
             have HAL2 := Lib.hid hal
             have CO := Lib.hid (open_no hd hal)
             have CC := Lib.hid (close_yes C hd HC2.out (hal C HC2.out))
             clear hd ho hst hal)
          | (go_at_call 31; (with_reducible refine CE2.out.mono ?_); rintro e w5 ⟨rfl, rfl⟩)
          | (go_at_call 33; (with_reducible refine CS.out.mono ?_); rintro e w5 ⟨rfl, rfl⟩)
          | (go_at_call 27; (with_reducible refine CO.out.mono ?_); rintro e w3 ⟨rfl, rfl⟩)
          | (go_at_call 29
             (with_reducible refine CC.out.mono ?_)
             rintro e w6 ⟨rfl, hd, ho⟩
             have HB6 : Hid (Below w.heap.size w w6) := below_one HB4.out HB4.out.size ho HGE.out
             have hlen : ((lst k).set C 2).length = 32 := by have := HD.out.len; simpa using this
             have hs0 : (((lst k).set C 2).set C 0).getD C 0 = 0 := set_same 0 (by have := HC2.out; omega)
             have hst : dSt M (((lst k).set C 2).set C 0) (C : Int) = 0 := by rw [dSt_in HC2.out]; exact hs0
             have CC2 := Lib.hid (close_no (C : Int) hd hst)
             have CS2 := Lib.hid (state_any (C : Int) hd)
             rw [hst] at CS2
             have CO2 := Lib.hid (open_yes C hd HC2.out (fun j hj => by
               have hj : j < M := by have := HC2.out; omega
               rw [set_other 0 (by omega)]; exact HAL2.out j hj) hs0)
             have HLN := Lib.hid hlen
             clear hd ho hst hs0 hlen)
          | (go_at_call 29; (with_reducible refine CC2.out.mono ?_); rintro e w7 ⟨rfl, rfl⟩)
          | (go_at_call 33; (with_reducible refine CS2.out.mono ?_); rintro e w7 ⟨rfl, rfl⟩)
          | (go_at_call 27
             (with_reducible refine CO2.out.mono ?_)
             rintro e w8 ⟨rfl, hd, ho⟩
             have HB8 : Hid (Below w.heap.size w w8) := below_one HB6.out HB6.out.size ho HGE.out
             have hst : dSt M ((((lst k).set C 2).set C 0).set C 1) (C : Int) = 1 := by rw [dSt_in HC2.out]; exact set_same 1 (by rw [List.length_set]; have := HLN.out; have := HC2.out; omega)
             have CS3 := Lib.hid (state_any (C : Int) hd)
             rw [hst] at CS3
             clear hd ho hst)
          | (go_at_call 33; (with_reducible refine CS3.out.mono ?_); rintro e w9 ⟨rfl, rfl⟩))
        go_ret
        exact ⟨rfl, HB8.out⟩

theorem walk (a0 : Int) (a1 : Int) (a2 : Bool) (w0 : (Lit.int .i64 a0).wf = true) (w1 : (Lit.int .i64 a1).wf = true) (w : World) :
    Calls Try.prog 7 #[.int .i64 a0, .int .i64 a1, .bool a2] w fun e w' => e = .returned (.bool true) ∧ Below w.heap.size w w' := by
  have h0 := Int.emod_nonneg a0 (show (34 : Int) ≠ 0 by omega)
  have h1 := Int.emod_lt_of_pos a0 (show (0 : Int) < 34 by omega)
  obtain ⟨m, hm⟩ := Int.eq_ofNat_of_zero_le h0
  by_cases hz : m = 0
  · exact walk_0 a0 a1 a2 m m w (bounds_i64 w0) (bounds_i64 w1) hm rfl (by omega) hz
  · by_cases h33 : m ≤ 32
    · obtain ⟨C, hC⟩ := Int.eq_ofNat_of_zero_le (Int.emod_nonneg a1 (show (m : Int) ≠ 0 by omega))
      exact walk_m a0 a1 a2 m m C w (bounds_i64 w0) (bounds_i64 w1) hm rfl h33 (by omega) hC
    · obtain ⟨C, hC⟩ := Int.eq_ofNat_of_zero_le (Int.emod_nonneg a1 (show ((32 : Nat) : Int) ≠ 0 by omega))
      exact walk_33 a0 a1 a2 m 32 C w (bounds_i64 w0) (bounds_i64 w1) hm rfl (by omega) (by omega) hC

/-! ### THE ROW's STEP: WRITTEN OUT: LEAVE IT -/
set_option maxRecDepth 100000 in
theorem lifted (os : Os) (started : os.Started) (H : Type) (enc : TypeId × Value → H) :
    ReturnsInHanded {} Try.checked os 7 .any (Rows.deskFullSpec.pre6 enc Try.prog Try.f7 Rows.deskFullRow.domain false) (Rows.deskFullSpec.post enc Try.prog Try.f7 false true false false) := by
  refine returnsInHanded_of_change (C := Try.checked) own started (by kernel_rfl) Try.func7
    (ChangeSpec.witness6 (enc := enc) (C := Try.checked) false ⟨#[], #[.int .i64 0, .int .i64 0, .bool false], []⟩ 8 (by kernel_rfl) (by kernel_rfl) (by kernel_rfl) (by kernel_rfl)) ?_
  intro W base args ds gs before hval0 hW hcnd _
  have hval : ∀ (j : Nat) t v, Try.f7.params[j]? = some t → args[j]? = some v → Value.okWide Try.prog W .any base t v := hval0
  have hW' := hW
  obtain ⟨p, q, hA0, hV, rfl, hfz, hnd⟩ := hW
  have hA : DataW.TrodAll enc Try.prog W 0 (fun _ => true) true Try.f7.params.toList args.toList ds p := hA0
  rw [Try.params7] at hA hval
  obtain ⟨v0, vs0, d0, ds0, p0, q0, hargs, rfl, rfl, h0, r0⟩ := trodAll_cons hA
  obtain ⟨v1, vs1, d1, ds1, p1, q1, rfl, rfl, rfl, h1, r1⟩ := trodAll_cons r0
  obtain ⟨v2, vs2, d2, ds2, p2, q2, rfl, rfl, rfl, h2, r2⟩ := trodAll_cons r1
  obtain ⟨rfl, rfl, rfl⟩ := trodAll_nil r2
  obtain rfl : args = #[v0, v1, v2] := by cases args; simp_all
  obtain ⟨rfl, rfl⟩ := trodVars_none hV
  obtain ⟨a0, rfl, rfl, rfl, w0⟩ := open_int Try.underlying3 (hval 0 3 v0 rfl rfl) h0
  obtain ⟨a1, rfl, rfl, rfl, w1⟩ := open_int Try.underlying3 (hval 1 3 v1 rfl rfl) h1
  obtain ⟨a2, rfl, rfl, rfl⟩ := open_bool Try.underlying4 (hval 2 4 v2 rfl rfl) h2
  clear hA0 hval0
  simp only [List.append_nil] at hW'
  refine (walk a0 a1 a2 w0 w1 W).mono fun e W' ⟨he, bel⟩ => ?_
  subst he
  exact ⟨_, rfl, _, _, _, [], _, [], hW', trodAll_mk1 (shut_bool Try.underlying4 _), (trodAll_cons_mk (shut_int Try.underlying3 w0) (trodAll_cons_mk (shut_int Try.underlying3 w1) (trodAll_cons_mk (shut_bool Try.underlying4 _) trodAll_mk0))), rfl, bel.frame _, fun h => by cases h⟩

theorem over : Rows.deskFullRow.holds Try.pinned (OpenSpec.ofChange Rows.deskFullSpec) :=
  OpenClaim.holds_of_wide 7 Try.f7 rfl rfl rfl rfl rfl rfl rfl ⟨rfl, rfl, rfl, rfl, rfl⟩ rfl rfl rfl rfl rfl (by kernel_rfl) Try.func7 (by kernel_rfl)
    (of_decide_eq_true (by kernel_rfl)) (by unfold Func.isWrapper; first | (rw [if_pos (by decide +kernel)]; kernel_rfl) | (rw [if_neg (by decide +kernel)]; exact ⟨rfl, rfl⟩))
    (fun os started H enc _ => lifted os started H enc)

/-- ████ THE STATEMENT ████ -/
theorem proved : Rows.DeskFullSaid :=
  over
#print axioms proved
end Go.Proofs.Ytokljdkbheogoaa.deskFull

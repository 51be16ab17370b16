/- Proved: for every list of ints, busbarlaw11.DeskCounts returns true. Conditions: none. -/
import Derived.Test.YtokljdkbheogoaaDMath
namespace Go.Proofs.Ytokljdkbheogoaa.deskCounts
open Go.ChangeShapes Go.WideShapes Go.ChangeAt Go.RowKit
open Go.ChangeMaps (open_string shut_string)
set_option linter.unusedVariables false


set_option maxRecDepth 100000 in
theorem walk_long (S : Option Addr) (L d : Nat) (w : World) (h : 100 < L) :
    Calls Try.prog 8 #[.slice S L d] w fun e w' => e = .returned (.bool true) ∧ Below w.heap.size w w' := by
  have h2 : (100 : Int) < (L : Int) := by omega
  clear h
  go_enter Try.func8, Try.ntmps8
  go_wp2_with (go_at_call 23; refine (dawake_any _).mono ?_; rintro e w1 ⟨rfl, hb⟩; have HB := Lib.hid hb; clear hb)
  go_ret
  exact ⟨rfl, HB.out⟩

set_option maxRecDepth 100000 in
set_option maxHeartbeats 8000000 in
theorem walk_any (S : Option Addr) (L d : Nat) (ks : List Int) (w : World) (hs : Row .i64 w w.heap.size S L ks) (hk : ∀ k ∈ ks, -9223372036854775808 ≤ k ∧ k ≤ 9223372036854775807) (hL : L ≤ 100) :
    Calls Try.prog 8 #[.slice S L d] w fun e w' => e = .returned (.bool true) ∧ Below w.heap.size w w' := by
  have hi2 : ¬ (100 : Int) < (L : Int) := by omega
  have CN := Lib.hid (fun W => dnew_any 8 8 W rfl)
  have HS := Lib.hid hs
  have HK := Lib.hid hk
  clear hs hk
  go_enter Try.func8, Try.ntmps8
  go_wp2_with (first
    | (go_at_call 23; refine (dawake_any _).mono ?_; rintro e w1 ⟨rfl, hb⟩; have HB1 := Lib.hid hb; clear hb)
    | (go_at_call 24
       (with_reducible refine (CN.out _).mono ?_)
       rintro e w2 ⟨rfl, hd, hb⟩
       have HB2 := Lib.hid (HB1.out.trans (hb.mono HB1.out.size))
       have HD2 := Lib.hid hd
       have HGE := Lib.hid HB1.out.size
       obtain ⟨g, hg⟩ : ∃ g, w1.heap.size = g := ⟨_, rfl⟩
       rw [hg] at HD2 HGE
       rw [hg]
       clear hd hb hg))
  go_loopw [4, 5] (fun v i wr => ∃ (k : Nat) (st : List Int), k ≤ L ∧ i = .int .i64 (k : Int) ∧ v = .int .i64 (nz st : Int) ∧ Hid (DkAt 104 wr g 8 st) ∧ Hid (Below w.heap.size w wr)) (fun _ i _ => L - (intOf i).toNat)
  case atStart => exact ⟨0, List.replicate 32 0, by omega, rfl, rfl, HD2, HB2⟩
  case round =>
    obtain ⟨k, st, hk, rfl, rfl, HD, HB⟩ := hrel
    by_cases hlt : k < L
    · obtain ⟨bS, offS, hS, hbS, hcell⟩ := HS.out.2 (by omega)
      subst hS
      have hsk := hcell k hlt
      obtain ⟨s, hs⟩ : ∃ s, ks.getD k 0 = s := ⟨_, rfl⟩
      have hsb := HK.out s (by
        have hl := HS.out.1
        rw [← hs, List.getD_eq_getElem?_getD, List.getElem?_eq_getElem (by omega)]
        exact List.getElem_mem _)
      rw [hs] at hsk
      obtain ⟨E, hE⟩ := Int.eq_ofNat_of_zero_le (Int.emod_nonneg s (show (4 : Int) ≠ 0 by omega))
      obtain ⟨D, hD⟩ := Int.eq_ofNat_of_zero_le (Int.emod_nonneg (s.tdiv 4) (show (9 : Int) ≠ 0 by omega))
      have CE := Lib.hid (fun W => within_any s 4 W hsb.1 hsb.2 (by omega) (by omega))
      rw [hE] at CE
      have CD := Lib.hid (fun W => digit_by s 4 9 D W hD hsb.1 hsb.2 (by omega) (by omega) (by omega) (by omega))
      have hE2 : E < 4 := by omega
      have hD2 : D < 9 := by omega
      have hwrS : wr.cell? ⟨bS, offS + k, none⟩ = some (.int .i64 s) := (HB.out.cell hbS).trans hsk
      have hNm := nz_most st 8 HD.out.tail
      obtain ⟨N, hN⟩ : ∃ N, nz st = N := ⟨_, rfl⟩
      rw [hN] at hNm ⊢
      clear hcell hs hE hD hsk hsb
      have hik : (k : Int) < (L : Int) := by omega
      have HLT := Lib.hid hlt
      clear hlt
      have hcase : E = 0 ∨ E = 1 ∨ E = 2 ∨ E = 3 := by omega
      clear hE2
      rcases hcase with rfl | rfl | rfl | rfl
      · skip
        obtain ⟨q, hq, hbf, hq0⟩ := first_free st 8
        by_cases hq8 : q < 8
        · have h0 := hq0 hq8
          have hn8 : N < 8 := by have := nz_room (by have := HD.out.len; omega) HD.out.tail hq8 h0; omega
          have hn8i : (N : Int) < 8 := by omega
          have C1 := Lib.hid (open_yes q HD.out hq8 hbf h0)
          have HNZ : Hid (((nz (st.set q 1) : Nat) : Int) = (N : Int) + 1) := by
            have h := nz_set st q 1 (by have := HD.out.len; omega)
            rw [h0, hN] at h
            simp at h
            show _ = _
            omega
          have HQ8 := Lib.hid hq8
          clear hq0 hbf h0 hq hN hq8
          go_wp2_with (first
            | (go_at_call 26; (with_reducible refine (CD.out _).mono ?_); rintro e w' ⟨rfl, rfl⟩)
            | (go_at_call 10; (with_reducible refine (CE.out _).mono ?_); rintro e w' ⟨rfl, rfl⟩)
            | (go_at_call 33; (with_reducible refine CS.out.mono ?_); rintro e w2 ⟨rfl, rfl⟩)
            | (go_at_call 27
               (with_reducible refine C1.out.mono ?_)
               rintro e w3 ⟨rfl, hd, ho⟩
               have HB3 : Hid (Below w.heap.size w w3) := below_one HB.out HB.out.size ho HGE.out
               have HD3 := Lib.hid hd
               have hcm := many_any hd
               rw [HNZ.out] at hcm
               have CM := Lib.hid hcm
               clear hd ho hcm)
            | (go_at_call 35
               (with_reducible refine CM.out.mono ?_)
               rintro e w5 ⟨rfl, hb⟩
               have HB5 := Lib.hid (HB3.out.trans (hb.mono HB3.out.size))
               have HD5 := Lib.hid (HD3.out.below hb)
               clear hb))
          go_roundw
          case rel => exact ⟨k + 1, st.set q 1, by have := HLT.out; omega, by go_num, by rw [HNZ.out], HD5, HB5⟩
          case measure => simp [intOf]; omega
        · have hal : ∀ j, j < 8 → st.getD j 0 ≠ 0 := fun j hj => hbf j (by omega)
          have hn8 : N = 8 := by
            rw [← hN, nz_all st 8 HD.out.tail]
            exact nz_full st 8 (by have := HD.out.len; omega) hal
          have hn8i : ¬ (N : Int) < 8 := by omega
          have C1 := Lib.hid (open_no HD.out hal)
          have HNZ : Hid (((nz st : Nat) : Int) = (N : Int)) := by show _ = _; rw [hN]
          clear hq0 hbf hq hN hq8 hal hn8
          have hcm := many_any HD.out
          rw [HNZ.out] at hcm
          have CM := Lib.hid hcm
          have HB3 := HB
          have HD3 := HD
          clear hcm
          go_wp2_with (first
            | (go_at_call 26; (with_reducible refine (CD.out _).mono ?_); rintro e w' ⟨rfl, rfl⟩)
            | (go_at_call 10; (with_reducible refine (CE.out _).mono ?_); rintro e w' ⟨rfl, rfl⟩)
            | (go_at_call 33; (with_reducible refine CS.out.mono ?_); rintro e w2 ⟨rfl, rfl⟩)
            | (go_at_call 27; (with_reducible refine C1.out.mono ?_); rintro e w3 ⟨rfl, rfl⟩)
            | (go_at_call 35
               (with_reducible refine CM.out.mono ?_)
               rintro e w5 ⟨rfl, hb⟩
               have HB5 := Lib.hid (HB3.out.trans (hb.mono HB3.out.size))
               have HD5 := Lib.hid (HD3.out.below hb)
               clear hb))
          go_roundw
          case rel => exact ⟨k + 1, st, by have := HLT.out; omega, by go_num, by rw [HNZ.out], HD5, HB5⟩
          case measure => simp [intOf]; omega
      · skip
        obtain ⟨q, hq, hbf, hq0⟩ := first_free st 8
        by_cases hq8 : q < 8
        · have h0 := hq0 hq8
          have hn8 : N < 8 := by have := nz_room (by have := HD.out.len; omega) HD.out.tail hq8 h0; omega
          have hn8i : (N : Int) < 8 := by omega
          have C1 := Lib.hid (open_yes q HD.out hq8 hbf h0)
          have HNZ : Hid (((nz (st.set q 1) : Nat) : Int) = (N : Int) + 1) := by
            have h := nz_set st q 1 (by have := HD.out.len; omega)
            rw [h0, hN] at h
            simp at h
            show _ = _
            omega
          have HQ8 := Lib.hid hq8
          clear hq0 hbf h0 hq hN hq8
          go_wp2_with (first
            | (go_at_call 26; (with_reducible refine (CD.out _).mono ?_); rintro e w' ⟨rfl, rfl⟩)
            | (go_at_call 10; (with_reducible refine (CE.out _).mono ?_); rintro e w' ⟨rfl, rfl⟩)
            | (go_at_call 33; (with_reducible refine CS.out.mono ?_); rintro e w2 ⟨rfl, rfl⟩)
            | (go_at_call 27
               (with_reducible refine C1.out.mono ?_)
               rintro e w3 ⟨rfl, hd, ho⟩
               have HB3 : Hid (Below w.heap.size w w3) := below_one HB.out HB.out.size ho HGE.out
               have HD3 := Lib.hid hd
               have hcm := many_any hd
               rw [HNZ.out] at hcm
               have CM := Lib.hid hcm
               clear hd ho hcm)
            | (go_at_call 35
               (with_reducible refine CM.out.mono ?_)
               rintro e w5 ⟨rfl, hb⟩
               have HB5 := Lib.hid (HB3.out.trans (hb.mono HB3.out.size))
               have HD5 := Lib.hid (HD3.out.below hb)
               clear hb))
          go_roundw
          case rel => exact ⟨k + 1, st.set q 1, by have := HLT.out; omega, by go_num, by rw [HNZ.out], HD5, HB5⟩
          case measure => simp [intOf]; omega
        · have hal : ∀ j, j < 8 → st.getD j 0 ≠ 0 := fun j hj => hbf j (by omega)
          have hn8 : N = 8 := by
            rw [← hN, nz_all st 8 HD.out.tail]
            exact nz_full st 8 (by have := HD.out.len; omega) hal
          have hn8i : ¬ (N : Int) < 8 := by omega
          have C1 := Lib.hid (open_no HD.out hal)
          have HNZ : Hid (((nz st : Nat) : Int) = (N : Int)) := by show _ = _; rw [hN]
          clear hq0 hbf hq hN hq8 hal hn8
          have hcm := many_any HD.out
          rw [HNZ.out] at hcm
          have CM := Lib.hid hcm
          have HB3 := HB
          have HD3 := HD
          clear hcm
          go_wp2_with (first
            | (go_at_call 26; (with_reducible refine (CD.out _).mono ?_); rintro e w' ⟨rfl, rfl⟩)
            | (go_at_call 10; (with_reducible refine (CE.out _).mono ?_); rintro e w' ⟨rfl, rfl⟩)
            | (go_at_call 33; (with_reducible refine CS.out.mono ?_); rintro e w2 ⟨rfl, rfl⟩)
            | (go_at_call 27; (with_reducible refine C1.out.mono ?_); rintro e w3 ⟨rfl, rfl⟩)
            | (go_at_call 35
               (with_reducible refine CM.out.mono ?_)
               rintro e w5 ⟨rfl, hb⟩
               have HB5 := Lib.hid (HB3.out.trans (hb.mono HB3.out.size))
               have HD5 := Lib.hid (HD3.out.below hb)
               clear hb))
          go_roundw
          case rel => exact ⟨k + 1, st, by have := HLT.out; omega, by go_num, by rw [HNZ.out], HD5, HB5⟩
          case measure => simp [intOf]; omega
      · skip
        by_cases hz : dSt 8 st (D : Int) = 0
        · have C1 := Lib.hid (close_no (D : Int) HD.out hz)
          have hcs := state_any (D : Int) HD.out
          rw [hz] at hcs
          have CS := Lib.hid hcs
          have HNZ : Hid (((nz st : Nat) : Int) = (N : Int)) := by show _ = _; rw [hN]
          clear hz hN hcs
          have hcm := many_any HD.out
          rw [HNZ.out] at hcm
          have CM := Lib.hid hcm
          have HB3 := HB
          have HD3 := HD
          clear hcm
          go_wp2_with (first
            | (go_at_call 26; (with_reducible refine (CD.out _).mono ?_); rintro e w' ⟨rfl, rfl⟩)
            | (go_at_call 10; (with_reducible refine (CE.out _).mono ?_); rintro e w' ⟨rfl, rfl⟩)
            | (go_at_call 33; (with_reducible refine CS.out.mono ?_); rintro e w2 ⟨rfl, rfl⟩)
            | (go_at_call 29; (with_reducible refine C1.out.mono ?_); rintro e w3 ⟨rfl, rfl⟩)
            | (go_at_call 35
               (with_reducible refine CM.out.mono ?_)
               rintro e w5 ⟨rfl, hb⟩
               have HB5 := Lib.hid (HB3.out.trans (hb.mono HB3.out.size))
               have HD5 := Lib.hid (HD3.out.below hb)
               clear hb))
          go_roundw
          case rel => exact ⟨k + 1, st, by have := HLT.out; omega, by go_num, by rw [HNZ.out], HD5, HB5⟩
          case measure => simp [intOf]; omega
        · have hd8 : D < 8 := dst_in hz
          rw [dSt_in hd8] at hz
          have C1 := Lib.hid (close_yes D HD.out hd8 hz)
          have hcs := state_any (D : Int) HD.out
          rw [dSt_in hd8] at hcs
          have HNZ : Hid (((nz (st.set D 0) : Nat) : Int) = (N : Int) - 1) := by
            have h := nz_set st D 0 (by have := HD.out.len; omega)
            rw [if_pos (by simpa using hz), hN] at h
            simp at h
            show _ = _
            omega
          have hn1 : 1 ≤ N := by rw [← hN]; exact nz_some (by have := HD.out.len; omega) hz
          obtain ⟨x, hx⟩ : ∃ x, st.getD D 0 = x := ⟨_, rfl⟩
          rw [hx] at hcs hz
          have hxb : (x != 0) = true := by simpa using hz
          have CS := Lib.hid hcs
          clear hz hN hcs hx
          go_wp2_with (first
            | (go_at_call 26; (with_reducible refine (CD.out _).mono ?_); rintro e w' ⟨rfl, rfl⟩)
            | (go_at_call 10; (with_reducible refine (CE.out _).mono ?_); rintro e w' ⟨rfl, rfl⟩)
            | (go_at_call 33; (with_reducible refine CS.out.mono ?_); rintro e w2 ⟨rfl, rfl⟩)
            | (go_at_call 29
               (with_reducible refine C1.out.mono ?_)
               rintro e w3 ⟨rfl, hd, ho⟩
               have HB3 : Hid (Below w.heap.size w w3) := below_one HB.out HB.out.size ho HGE.out
               have HD3 := Lib.hid hd
               have hcm := many_any hd
               rw [HNZ.out] at hcm
               have CM := Lib.hid hcm
               clear hd ho hcm)
            | (go_at_call 35
               (with_reducible refine CM.out.mono ?_)
               rintro e w5 ⟨rfl, hb⟩
               have HB5 := Lib.hid (HB3.out.trans (hb.mono HB3.out.size))
               have HD5 := Lib.hid (HD3.out.below hb)
               clear hb))
          go_roundw
          case rel => exact ⟨k + 1, st.set D 0, by have := HLT.out; omega, by go_num, by rw [HNZ.out], HD5, HB5⟩
          case measure => simp [intOf]; omega
      · skip
        by_cases hz : dSt 8 st (D : Int) = 1
        · have hd8 : D < 8 := dst_in (by rw [hz]; decide)
          have hcs := state_any (D : Int) HD.out
          rw [hz] at hcs
          rw [dSt_in hd8] at hz
          have C1 := Lib.hid (end_yes D HD.out hd8 hz)
          have HNZ : Hid (((nz (st.set D 2) : Nat) : Int) = (N : Int)) := by
            have h := nz_set st D 2 (by have := HD.out.len; omega)
            rw [hz, hN] at h
            simp at h
            show _ = _
            omega
          have CS := Lib.hid hcs
          clear hz hN hcs
          go_wp2_with (first
            | (go_at_call 26; (with_reducible refine (CD.out _).mono ?_); rintro e w' ⟨rfl, rfl⟩)
            | (go_at_call 10; (with_reducible refine (CE.out _).mono ?_); rintro e w' ⟨rfl, rfl⟩)
            | (go_at_call 33; (with_reducible refine CS.out.mono ?_); rintro e w2 ⟨rfl, rfl⟩)
            | (go_at_call 31
               (with_reducible refine C1.out.mono ?_)
               rintro e w3 ⟨rfl, hd, ho⟩
               have HB3 : Hid (Below w.heap.size w w3) := below_one HB.out HB.out.size ho HGE.out
               have HD3 := Lib.hid hd
               have hcm := many_any hd
               rw [HNZ.out] at hcm
               have CM := Lib.hid hcm
               clear hd ho hcm)
            | (go_at_call 35
               (with_reducible refine CM.out.mono ?_)
               rintro e w5 ⟨rfl, hb⟩
               have HB5 := Lib.hid (HB3.out.trans (hb.mono HB3.out.size))
               have HD5 := Lib.hid (HD3.out.below hb)
               clear hb))
          go_roundw
          case rel => exact ⟨k + 1, st.set D 2, by have := HLT.out; omega, by go_num, by rw [HNZ.out], HD5, HB5⟩
          case measure => simp [intOf]; omega
        · have C1 := Lib.hid (end_no (D : Int) HD.out hz)
          have hcs := state_any (D : Int) HD.out
          have HNZ : Hid (((nz st : Nat) : Int) = (N : Int)) := by show _ = _; rw [hN]
          obtain ⟨x, hx⟩ : ∃ x, dSt 8 st (D : Int) = x := ⟨_, rfl⟩
          rw [hx] at hcs hz
          have hxb : (x == 1) = false := by simpa using hz
          have CS := Lib.hid hcs
          clear hz hN hcs hx
          have hcm := many_any HD.out
          rw [HNZ.out] at hcm
          have CM := Lib.hid hcm
          have HB3 := HB
          have HD3 := HD
          clear hcm
          go_wp2_with (first
            | (go_at_call 26; (with_reducible refine (CD.out _).mono ?_); rintro e w' ⟨rfl, rfl⟩)
            | (go_at_call 10; (with_reducible refine (CE.out _).mono ?_); rintro e w' ⟨rfl, rfl⟩)
            | (go_at_call 33; (with_reducible refine CS.out.mono ?_); rintro e w2 ⟨rfl, rfl⟩)
            | (go_at_call 31; (with_reducible refine C1.out.mono ?_); rintro e w3 ⟨rfl, rfl⟩)
            | (go_at_call 35
               (with_reducible refine CM.out.mono ?_)
               rintro e w5 ⟨rfl, hb⟩
               have HB5 := Lib.hid (HB3.out.trans (hb.mono HB3.out.size))
               have HD5 := Lib.hid (HD3.out.below hb)
               clear hb))
          go_roundw
          case rel => exact ⟨k + 1, st, by have := HLT.out; omega, by go_num, by rw [HNZ.out], HD5, HB5⟩
          case measure => simp [intOf]; omega
    · have hik : ¬ (k : Int) < (L : Int) := by omega
      go_wp2_with fail
      go_ret
      exact ⟨rfl, HB.out⟩

theorem walk (a0 : Option Addr) (len0 cap0 : Nat) (z0 : List Int) (w : World) (w0 : IsRow .i64 w a0 len0 cap0 z0) :
    Calls Try.prog 8 #[.slice a0 len0 cap0] w fun e w' => e = .returned (.bool true) ∧ Below w.heap.size w w' := by
  by_cases h : 100 < len0
  · exact walk_long _ _ _ w h
  · exact walk_any a0 len0 cap0 _ w w0.row (fun k hk => bounds_i64 (w0.wf k hk)) (by omega)

/-! ### THE ROW's STEP: WRITTEN OUT: LEAVE IT -/
set_option maxRecDepth 100000 in
theorem lifted (os : Os) (started : os.Started) (H : Type) (enc : TypeId × Value → H) :
    ReturnsInHanded {} Try.checked os 8 .any (Rows.deskCountsSpec.pre6 enc Try.prog Try.f8 Rows.deskCountsRow.domain false) (Rows.deskCountsSpec.post enc Try.prog Try.f8 false true false false) := by
  refine returnsInHanded_of_change (C := Try.checked) own started (by kernel_rfl) Try.func8
    (ChangeSpec.witness6 (enc := enc) (C := Try.checked) false ⟨#[], #[.slice none 0 0], []⟩ 8 (by kernel_rfl) (by kernel_rfl) (by kernel_rfl) (by kernel_rfl)) ?_
  intro W base args ds gs before hval0 hW hcnd _
  have hval : ∀ (j : Nat) t v, Try.f8.params[j]? = some t → args[j]? = some v → Value.okWide Try.prog W .any base t v := hval0
  have hW' := hW
  obtain ⟨p, q, hA0, hV, rfl, hfz, hnd⟩ := hW
  have hA : DataW.TrodAll enc Try.prog W 0 (fun _ => true) true Try.f8.params.toList args.toList ds p := hA0
  rw [Try.params8] at hA hval
  obtain ⟨v0, vs0, d0, ds0, p0, q0, hargs, rfl, rfl, h0, r0⟩ := trodAll_cons hA
  obtain ⟨rfl, rfl, rfl⟩ := trodAll_nil r0
  obtain rfl : args = #[v0] := by cases args; simp_all
  obtain ⟨rfl, rfl⟩ := trodVars_none hV
  obtain ⟨a0, len0, cap0, rfl⟩ := okWide_slice Try.underlying43 (hval 0 43 v0 rfl rfl)
  have k0 := h0
  have lt0 : ∀ x ∈ p0, x.block < W.heap.size := by obtain ⟨m, hm⟩ := k0; exact DataW.trod_lt m _ _ _ hm
  obtain ⟨z0, w0⟩ : ∃ zs, IsRow .i64 W a0 len0 cap0 zs := by
    obtain ⟨fuel, hf⟩ := h0
    rcases open_ints Try.underlying43 Try.underlying3 (by kernel_rfl) hf with ⟨hcs, _⟩ | ⟨x, l, c, zs, hcs, _, hl, hm, hz, _, hcell, hwz⟩
    · simp [Value.cells] at hcs
      obtain ⟨rfl, rfl, rfl⟩ := hcs
      exact ⟨[], .inl ⟨rfl, rfl, rfl, rfl⟩⟩
    · simp [Value.cells] at hcs
      obtain ⟨rfl, rfl, rfl⟩ := hcs
      exact ⟨zs, .inr ⟨_, rfl, hl, hm, by simpa using hz, hcell, hwz⟩⟩
  clear hA0 hval0
  refine (walk a0 len0 cap0 z0 W w0).mono fun e W' ⟨he, bel⟩ => ?_
  subst he
  exact ⟨_, rfl, _, _, _, [], _, [], hW', trodAll_mk1 (shut_bool Try.underlying4 _), (trodAll_cons_mk (Below.trod laidOut (by kernel_rfl) (of_decide_eq_true (by kernel_rfl)) k0 bel lt0) trodAll_mk0), rfl, bel.frame _, fun h => by cases h⟩

theorem over : Rows.deskCountsRow.holds Try.pinned (OpenSpec.ofChange Rows.deskCountsSpec) :=
  OpenClaim.holds_of_wide 8 Try.f8 rfl rfl rfl rfl rfl rfl rfl ⟨rfl, rfl, rfl, rfl, rfl⟩ rfl rfl rfl rfl rfl (by kernel_rfl) Try.func8 (by kernel_rfl)
    (of_decide_eq_true (by kernel_rfl)) (by unfold Func.isWrapper; first | (rw [if_pos (by decide +kernel)]; kernel_rfl) | (rw [if_neg (by decide +kernel)]; exact ⟨rfl, rfl⟩))
    (fun os started H enc _ => lifted os started H enc)

/-- ████ THE STATEMENT ████ -/
theorem proved : Rows.DeskCountsSaid := over
#print axioms proved
end Go.Proofs.Ytokljdkbheogoaa.deskCounts

/- Proved: for every int, every bool and every list of ints, busbarlaw11.DeskPlays returns true. Conditions: none. -/
import Derived.Test.YtokljdkbheogoaaDMath
import Derived.Test.YtokljdkbheogoaaRDesk
namespace Go.Proofs.Ytokljdkbheogoaa.deskPlays
open Go.ChangeShapes Go.WideShapes Go.ChangeAt Go.RowKit
open Go.ChangeMaps (open_string shut_string)
set_option linter.unusedVariables false


theorem dst_ex {M : Nat} {st : List Int} {c : Int} (h : dSt M st c ≠ 0) : ∃ q : Nat, c = (q : Int) ∧ q < M := by
  unfold dSt at h
  split at h
  · exact absurd rfl h
  · exact ⟨c.toNat, by omega, by omega⟩
set_option maxRecDepth 100000 in
theorem walk_long (a0 : Int) (a1 : Bool) (S : Option Addr) (L d : Nat) (w : World) (h : 200 < L) :
    Calls Try.prog 6 #[.int .i64 a0, .bool a1, .slice S L d] w fun e w' => e = .returned (.bool true) ∧ Below w.heap.size w w' := by
  have h2 : (200 : Int) < (L : Int) := by omega
  clear h
  go_enter Try.func6, Try.ntmps6
  go_wp2_with (go_at_call 23; refine (dawake_any _).mono ?_; rintro e w1 ⟨rfl, hb⟩; have HB := Lib.hid hb; clear hb)
  go_ret
  exact ⟨rfl, HB.out⟩

set_option maxRecDepth 100000 in
set_option maxHeartbeats 8000000 in
theorem dplays_true (a0 : Int) (S : Option Addr) (L d : Nat) (ks : List Int) (mo : Int) (M : Nat) (w : World) (hs : Row .i64 w w.heap.size S L ks) (hk : ∀ k ∈ ks, -9223372036854775808 ≤ k ∧ k ≤ 9223372036854775807) (b0 : -9223372036854775808 ≤ a0 ∧ a0 ≤ 9223372036854775807)
    (hmo : mo = a0 % 6) (hM : (M : Int) = if 32 < (if mo < 0 then 0 else mo) then 32 else (if mo < 0 then 0 else mo)) (hL : L ≤ 200) :
    Calls Try.prog 6 #[.int .i64 a0, .bool true, .slice S L d] w fun e w' => e = .returned (.bool true) ∧ Below w.heap.size w w' := by
  have hi2 : ¬ (200 : Int) < (L : Int) := by omega
  have CN := Lib.hid (fun W => dnew_any mo M W hM)
  have CR := Lib.hid (fun W => rdnew_any mo M W hM)
  have CW := Lib.hid (fun W => within_any a0 6 W b0.1 b0.2 (by omega) (by omega))
  have HS := Lib.hid hs
  have HK := Lib.hid hk
  clear hs hk hM b0
  rw [← hmo] at CW
  clear hmo
  go_enter Try.func6, Try.ntmps6
  go_wp2_with (first
    | (go_at_call 23; refine (dawake_any _).mono ?_; rintro e w1 ⟨rfl, hb⟩; have HB1 := Lib.hid hb; clear hb)
    | (go_at_call 10; (with_reducible refine (CW.out _).mono ?_); rintro e w' ⟨rfl, rfl⟩)
    | (go_at_call 24
       (with_reducible refine (CN.out _).mono ?_)
       rintro e w2 ⟨rfl, hd, hb⟩
       have HB2 := Lib.hid (HB1.out.trans (hb.mono HB1.out.size))
       have HD2 := Lib.hid hd
       have HGE := Lib.hid HB1.out.size
       obtain ⟨g, hg⟩ : ∃ g, w1.heap.size = g := ⟨_, rfl⟩
       rw [hg] at HD2 HGE
       rw [hg]
       clear hd hb hg)
    | (go_at_call 25
       (with_reducible refine (CR.out _).mono ?_)
       rintro e w3 ⟨rfl, hr, hb⟩
       have HB3 := Lib.hid (HB2.out.trans (hb.mono HB2.out.size))
       have HR3 := Lib.hid hr
       have HD3 := Lib.hid (HD2.out.below hb)
       have HGX : Hid ((w.heap.size ≤ g ∧ w.heap.size ≤ w2.heap.size) ∧ g ≠ w2.heap.size ∧ w2.heap.size ≠ g) := by
         have h1 := HD2.out.lt
         have h2 := HGE.out
         exact ⟨⟨h2, by omega⟩, by omega, by omega⟩
       obtain ⟨x, hx⟩ : ∃ x, w2.heap.size = x := ⟨_, rfl⟩
       rw [hx] at HR3 HGX
       rw [hx]
       clear hr hb hx))
  go_loopw [9] (fun i wr => ∃ (k : Nat) (st : List Int), k ≤ L ∧ i = .int .i64 (k : Int) ∧ Hid (DkAt 104 wr g M st) ∧ Hid (DkAt 106 wr x M st) ∧ Hid (Below w.heap.size w wr)) (fun i _ => L - (intOf i).toNat)
  case atStart => exact ⟨0, List.replicate 32 0, by omega, rfl, HD3, HR3, HB3⟩
  case round =>
    obtain ⟨k, st, hk, rfl, HD, HR, HB⟩ := hrel
    by_cases hlt : k < L
    · obtain ⟨bS, offS, hS, hbS, hcell⟩ := HS.out.2 (by omega)
      subst hS
      have hsk := hcell k hlt
      obtain ⟨s, hs⟩ : ∃ s, ks.getD k 0 = s := ⟨_, rfl⟩
      have hsb := HK.out s (by
        have hl := HS.out.1
        rw [← hs, List.getD_eq_getElem?_getD, List.getElem?_eq_getElem (by omega)]
        exact List.getElem_mem _)
      rw [hs] at hsk
      obtain ⟨E, hE⟩ := Int.eq_ofNat_of_zero_le (Int.emod_nonneg s (show (4 : Int) ≠ 0 by omega))
      obtain ⟨D, hD⟩ := Int.eq_ofNat_of_zero_le (Int.emod_nonneg (s.tdiv 4) (show (36 : Int) ≠ 0 by omega))
      have CE := Lib.hid (fun W => within_any s 4 W hsb.1 hsb.2 (by omega) (by omega))
      rw [hE] at CE
      have CD := Lib.hid (fun W => digit_by s 4 36 D W hD hsb.1 hsb.2 (by omega) (by omega) (by omega) (by omega))
      have hE2 : E < 4 := by omega
      have hD2 : D < 36 := by omega
      have hwrS : wr.cell? ⟨bS, offS + k, none⟩ = some (.int .i64 s) := (HB.out.cell hbS).trans hsk
      clear hcell hs hE hD hsk hsb
      have hik : (k : Int) < (L : Int) := by omega
      have HLT := Lib.hid hlt
      clear hlt
      have hcase : E = 0 ∨ E = 1 ∨ E = 2 ∨ E = 3 := by omega
      clear hE2
      rcases hcase with rfl | rfl | rfl | rfl
      · skip
        obtain ⟨q, hq, hbf, hq0⟩ := first_free st M
        by_cases hqM : q < M
        · have h0 := hq0 hqM
          have C1 := Lib.hid (open_yes q HD.out hqM hbf h0)
          have HQ := Lib.hid (And.intro hqM (And.intro hbf h0))
          clear hq0 hbf h0 hq hqM
          go_wp2_with (first
            | (go_at_call 26; (with_reducible refine (CD.out _).mono ?_); rintro e w' ⟨rfl, rfl⟩)
            | (go_at_call 10; (with_reducible refine (CE.out _).mono ?_); rintro e w' ⟨rfl, rfl⟩)
            | (go_at_call 27
               (with_reducible refine C1.out.mono ?_)
               rintro e w3 ⟨rfl, hd, ho⟩
               have HB3 : Hid (Below w.heap.size w w3) := below_one HB.out HB.out.size ho HGX.out.1.1
               have HD3 := Lib.hid hd
               have HR3 : Hid (DkAt 106 w3 x M st) := HR.out.off ho HGX.out.2.2
               have C2 := Lib.hid (ropen_yes q HR3.out HQ.out.1 HQ.out.2.1 HQ.out.2.2)
               clear hd ho)
            | (go_at_call 28
               (with_reducible refine C2.out.mono ?_)
               rintro e w4 ⟨rfl, hr, ho⟩
               have HD4 : Hid (DkAt 104 w4 g M (st.set q 1)) := HD3.out.off ho HGX.out.2.1
               have HR4 := Lib.hid hr
               have HB4 : Hid (Below w.heap.size w w4) := below_one HB3.out HB3.out.size ho HGX.out.1.2
               have CS := Lib.hid (state_any ((D : Int) - 2) HD4.out)
               have CRS := Lib.hid (rstate_any ((D : Int) - 2) HR4.out)
               have CM := Lib.hid (many_any HD4.out)
               clear hr ho)
            | (go_at_call 33; (with_reducible refine CS.out.mono ?_); rintro e w5 ⟨rfl, rfl⟩)
            | (go_at_call 34; (with_reducible refine CRS.out.mono ?_); rintro e w5 ⟨rfl, rfl⟩)
            | (go_at_call 35
               (with_reducible refine CM.out.mono ?_)
               rintro e w6 ⟨rfl, hb⟩
               have HB6 := Lib.hid (HB4.out.trans (hb.mono HB4.out.size))
               have HD6 := Lib.hid (HD4.out.below hb)
               have HR6 := Lib.hid (HR4.out.below hb)
               have CRM := Lib.hid (rmany_any HR6.out)
               clear hb)
            | (go_at_call 36; (with_reducible refine CRM.out.mono ?_); rintro e w7 ⟨rfl, rfl⟩))
          go_roundw
          case rel => exact ⟨k + 1, (st.set q 1), by have := HLT.out; omega, by go_num, HD6, HR6, HB6⟩
          case measure => simp [intOf]; omega
        · have hal : ∀ j, j < M → st.getD j 0 ≠ 0 := fun j hj => hbf j (by omega)
          have C1 := Lib.hid (open_no HD.out hal)
          have C2 := Lib.hid (ropen_no HR.out hal)
          clear hq0 hbf hq hqM hal
          have HD4 := HD
          have HR4 := HR
          have HB4 := HB
          have CS := Lib.hid (state_any ((D : Int) - 2) HD4.out)
          have CRS := Lib.hid (rstate_any ((D : Int) - 2) HR4.out)
          have CM := Lib.hid (many_any HD4.out)
          go_wp2_with (first
            | (go_at_call 26; (with_reducible refine (CD.out _).mono ?_); rintro e w' ⟨rfl, rfl⟩)
            | (go_at_call 10; (with_reducible refine (CE.out _).mono ?_); rintro e w' ⟨rfl, rfl⟩)
            | (go_at_call 27; (with_reducible refine C1.out.mono ?_); rintro e w3 ⟨rfl, rfl⟩)
            | (go_at_call 28; (with_reducible refine C2.out.mono ?_); rintro e w3 ⟨rfl, rfl⟩)
            | (go_at_call 33; (with_reducible refine CS.out.mono ?_); rintro e w5 ⟨rfl, rfl⟩)
            | (go_at_call 34; (with_reducible refine CRS.out.mono ?_); rintro e w5 ⟨rfl, rfl⟩)
            | (go_at_call 35
               (with_reducible refine CM.out.mono ?_)
               rintro e w6 ⟨rfl, hb⟩
               have HB6 := Lib.hid (HB4.out.trans (hb.mono HB4.out.size))
               have HD6 := Lib.hid (HD4.out.below hb)
               have HR6 := Lib.hid (HR4.out.below hb)
               have CRM := Lib.hid (rmany_any HR6.out)
               clear hb)
            | (go_at_call 36; (with_reducible refine CRM.out.mono ?_); rintro e w7 ⟨rfl, rfl⟩))
          go_roundw
          case rel => exact ⟨k + 1, st, by have := HLT.out; omega, by go_num, HD6, HR6, HB6⟩
          case measure => simp [intOf]; omega
      · skip
        obtain ⟨q, hq, hbf, hq0⟩ := first_free st M
        by_cases hqM : q < M
        · have h0 := hq0 hqM
          have C1 := Lib.hid (open_yes q HD.out hqM hbf h0)
          have HQ := Lib.hid (And.intro hqM (And.intro hbf h0))
          clear hq0 hbf h0 hq hqM
          go_wp2_with (first
            | (go_at_call 26; (with_reducible refine (CD.out _).mono ?_); rintro e w' ⟨rfl, rfl⟩)
            | (go_at_call 10; (with_reducible refine (CE.out _).mono ?_); rintro e w' ⟨rfl, rfl⟩)
            | (go_at_call 27
               (with_reducible refine C1.out.mono ?_)
               rintro e w3 ⟨rfl, hd, ho⟩
               have HB3 : Hid (Below w.heap.size w w3) := below_one HB.out HB.out.size ho HGX.out.1.1
               have HD3 := Lib.hid hd
               have HR3 : Hid (DkAt 106 w3 x M st) := HR.out.off ho HGX.out.2.2
               have C2 := Lib.hid (ropen_yes q HR3.out HQ.out.1 HQ.out.2.1 HQ.out.2.2)
               clear hd ho)
            | (go_at_call 28
               (with_reducible refine C2.out.mono ?_)
               rintro e w4 ⟨rfl, hr, ho⟩
               have HD4 : Hid (DkAt 104 w4 g M (st.set q 1)) := HD3.out.off ho HGX.out.2.1
               have HR4 := Lib.hid hr
               have HB4 : Hid (Below w.heap.size w w4) := below_one HB3.out HB3.out.size ho HGX.out.1.2
               have CS := Lib.hid (state_any ((D : Int) - 2) HD4.out)
               have CRS := Lib.hid (rstate_any ((D : Int) - 2) HR4.out)
               have CM := Lib.hid (many_any HD4.out)
               clear hr ho)
            | (go_at_call 33; (with_reducible refine CS.out.mono ?_); rintro e w5 ⟨rfl, rfl⟩)
            | (go_at_call 34; (with_reducible refine CRS.out.mono ?_); rintro e w5 ⟨rfl, rfl⟩)
            | (go_at_call 35
               (with_reducible refine CM.out.mono ?_)
               rintro e w6 ⟨rfl, hb⟩
               have HB6 := Lib.hid (HB4.out.trans (hb.mono HB4.out.size))
               have HD6 := Lib.hid (HD4.out.below hb)
               have HR6 := Lib.hid (HR4.out.below hb)
               have CRM := Lib.hid (rmany_any HR6.out)
               clear hb)
            | (go_at_call 36; (with_reducible refine CRM.out.mono ?_); rintro e w7 ⟨rfl, rfl⟩))
          go_roundw
          case rel => exact ⟨k + 1, (st.set q 1), by have := HLT.out; omega, by go_num, HD6, HR6, HB6⟩
          case measure => simp [intOf]; omega
        · have hal : ∀ j, j < M → st.getD j 0 ≠ 0 := fun j hj => hbf j (by omega)
          have C1 := Lib.hid (open_no HD.out hal)
          have C2 := Lib.hid (ropen_no HR.out hal)
          clear hq0 hbf hq hqM hal
          have HD4 := HD
          have HR4 := HR
          have HB4 := HB
          have CS := Lib.hid (state_any ((D : Int) - 2) HD4.out)
          have CRS := Lib.hid (rstate_any ((D : Int) - 2) HR4.out)
          have CM := Lib.hid (many_any HD4.out)
          go_wp2_with (first
            | (go_at_call 26; (with_reducible refine (CD.out _).mono ?_); rintro e w' ⟨rfl, rfl⟩)
            | (go_at_call 10; (with_reducible refine (CE.out _).mono ?_); rintro e w' ⟨rfl, rfl⟩)
            | (go_at_call 27; (with_reducible refine C1.out.mono ?_); rintro e w3 ⟨rfl, rfl⟩)
            | (go_at_call 28; (with_reducible refine C2.out.mono ?_); rintro e w3 ⟨rfl, rfl⟩)
            | (go_at_call 33; (with_reducible refine CS.out.mono ?_); rintro e w5 ⟨rfl, rfl⟩)
            | (go_at_call 34; (with_reducible refine CRS.out.mono ?_); rintro e w5 ⟨rfl, rfl⟩)
            | (go_at_call 35
               (with_reducible refine CM.out.mono ?_)
               rintro e w6 ⟨rfl, hb⟩
               have HB6 := Lib.hid (HB4.out.trans (hb.mono HB4.out.size))
               have HD6 := Lib.hid (HD4.out.below hb)
               have HR6 := Lib.hid (HR4.out.below hb)
               have CRM := Lib.hid (rmany_any HR6.out)
               clear hb)
            | (go_at_call 36; (with_reducible refine CRM.out.mono ?_); rintro e w7 ⟨rfl, rfl⟩))
          go_roundw
          case rel => exact ⟨k + 1, st, by have := HLT.out; omega, by go_num, HD6, HR6, HB6⟩
          case measure => simp [intOf]; omega
      · skip
        by_cases hz : dSt M st ((D : Int) - 2) = 0
        · have C1 := Lib.hid (close_no ((D : Int) - 2) HD.out hz)
          have C2 := Lib.hid (rclose_no ((D : Int) - 2) HR.out hz)
          clear hz
          have HD4 := HD
          have HR4 := HR
          have HB4 := HB
          have CS := Lib.hid (state_any ((D : Int) - 2) HD4.out)
          have CRS := Lib.hid (rstate_any ((D : Int) - 2) HR4.out)
          have CM := Lib.hid (many_any HD4.out)
          go_wp2_with (first
            | (go_at_call 26; (with_reducible refine (CD.out _).mono ?_); rintro e w' ⟨rfl, rfl⟩)
            | (go_at_call 10; (with_reducible refine (CE.out _).mono ?_); rintro e w' ⟨rfl, rfl⟩)
            | (go_at_call 29; (with_reducible refine C1.out.mono ?_); rintro e w3 ⟨rfl, rfl⟩)
            | (go_at_call 30; (with_reducible refine C2.out.mono ?_); rintro e w3 ⟨rfl, rfl⟩)
            | (go_at_call 33; (with_reducible refine CS.out.mono ?_); rintro e w5 ⟨rfl, rfl⟩)
            | (go_at_call 34; (with_reducible refine CRS.out.mono ?_); rintro e w5 ⟨rfl, rfl⟩)
            | (go_at_call 35
               (with_reducible refine CM.out.mono ?_)
               rintro e w6 ⟨rfl, hb⟩
               have HB6 := Lib.hid (HB4.out.trans (hb.mono HB4.out.size))
               have HD6 := Lib.hid (HD4.out.below hb)
               have HR6 := Lib.hid (HR4.out.below hb)
               have CRM := Lib.hid (rmany_any HR6.out)
               clear hb)
            | (go_at_call 36; (with_reducible refine CRM.out.mono ?_); rintro e w7 ⟨rfl, rfl⟩))
          go_roundw
          case rel => exact ⟨k + 1, st, by have := HLT.out; omega, by go_num, HD6, HR6, HB6⟩
          case measure => simp [intOf]; omega
        · obtain ⟨q, hq, hqM⟩ := dst_ex (M := M) (st := st) (c := (D : Int) - 2) hz
          rw [hq, dSt_in hqM] at hz
          have hc1 := close_yes q HD.out hqM hz
          rw [← hq] at hc1
          have C1 := Lib.hid hc1
          have HQ := Lib.hid (And.intro hqM (And.intro hq hz))
          clear hz hq hqM hc1
          go_wp2_with (first
            | (go_at_call 26; (with_reducible refine (CD.out _).mono ?_); rintro e w' ⟨rfl, rfl⟩)
            | (go_at_call 10; (with_reducible refine (CE.out _).mono ?_); rintro e w' ⟨rfl, rfl⟩)
            | (go_at_call 29
               (with_reducible refine C1.out.mono ?_)
               rintro e w3 ⟨rfl, hd, ho⟩
               have HB3 : Hid (Below w.heap.size w w3) := below_one HB.out HB.out.size ho HGX.out.1.1
               have HD3 := Lib.hid hd
               have HR3 : Hid (DkAt 106 w3 x M st) := HR.out.off ho HGX.out.2.2
               have hc2 := rclose_yes q HR3.out HQ.out.1 HQ.out.2.2
               rw [← HQ.out.2.1] at hc2
               have C2 := Lib.hid hc2
               clear hd ho hc2)
            | (go_at_call 30
               (with_reducible refine C2.out.mono ?_)
               rintro e w4 ⟨rfl, hr, ho⟩
               have HD4 : Hid (DkAt 104 w4 g M (st.set q 0)) := HD3.out.off ho HGX.out.2.1
               have HR4 := Lib.hid hr
               have HB4 : Hid (Below w.heap.size w w4) := below_one HB3.out HB3.out.size ho HGX.out.1.2
               have CS := Lib.hid (state_any ((D : Int) - 2) HD4.out)
               have CRS := Lib.hid (rstate_any ((D : Int) - 2) HR4.out)
               have CM := Lib.hid (many_any HD4.out)
               clear hr ho)
            | (go_at_call 33; (with_reducible refine CS.out.mono ?_); rintro e w5 ⟨rfl, rfl⟩)
            | (go_at_call 34; (with_reducible refine CRS.out.mono ?_); rintro e w5 ⟨rfl, rfl⟩)
            | (go_at_call 35
               (with_reducible refine CM.out.mono ?_)
               rintro e w6 ⟨rfl, hb⟩
               have HB6 := Lib.hid (HB4.out.trans (hb.mono HB4.out.size))
               have HD6 := Lib.hid (HD4.out.below hb)
               have HR6 := Lib.hid (HR4.out.below hb)
               have CRM := Lib.hid (rmany_any HR6.out)
               clear hb)
            | (go_at_call 36; (with_reducible refine CRM.out.mono ?_); rintro e w7 ⟨rfl, rfl⟩))
          go_roundw
          case rel => exact ⟨k + 1, (st.set q 0), by have := HLT.out; omega, by go_num, HD6, HR6, HB6⟩
          case measure => simp [intOf]; omega
      · skip
        by_cases hz : dSt M st ((D : Int) - 2) ≠ 1
        · have C1 := Lib.hid (end_no ((D : Int) - 2) HD.out hz)
          have C2 := Lib.hid (rend_no ((D : Int) - 2) HR.out hz)
          clear hz
          have HD4 := HD
          have HR4 := HR
          have HB4 := HB
          have CS := Lib.hid (state_any ((D : Int) - 2) HD4.out)
          have CRS := Lib.hid (rstate_any ((D : Int) - 2) HR4.out)
          have CM := Lib.hid (many_any HD4.out)
          go_wp2_with (first
            | (go_at_call 26; (with_reducible refine (CD.out _).mono ?_); rintro e w' ⟨rfl, rfl⟩)
            | (go_at_call 10; (with_reducible refine (CE.out _).mono ?_); rintro e w' ⟨rfl, rfl⟩)
            | (go_at_call 31; (with_reducible refine C1.out.mono ?_); rintro e w3 ⟨rfl, rfl⟩)
            | (go_at_call 32; (with_reducible refine C2.out.mono ?_); rintro e w3 ⟨rfl, rfl⟩)
            | (go_at_call 33; (with_reducible refine CS.out.mono ?_); rintro e w5 ⟨rfl, rfl⟩)
            | (go_at_call 34; (with_reducible refine CRS.out.mono ?_); rintro e w5 ⟨rfl, rfl⟩)
            | (go_at_call 35
               (with_reducible refine CM.out.mono ?_)
               rintro e w6 ⟨rfl, hb⟩
               have HB6 := Lib.hid (HB4.out.trans (hb.mono HB4.out.size))
               have HD6 := Lib.hid (HD4.out.below hb)
               have HR6 := Lib.hid (HR4.out.below hb)
               have CRM := Lib.hid (rmany_any HR6.out)
               clear hb)
            | (go_at_call 36; (with_reducible refine CRM.out.mono ?_); rintro e w7 ⟨rfl, rfl⟩))
          go_roundw
          case rel => exact ⟨k + 1, st, by have := HLT.out; omega, by go_num, HD6, HR6, HB6⟩
          case measure => simp [intOf]; omega
        · obtain ⟨q, hq, hqM⟩ := dst_ex (M := M) (st := st) (c := (D : Int) - 2) (by rw [Classical.not_not.1 hz]; decide)
          rw [hq, dSt_in hqM] at hz
          have hc1 := end_yes q HD.out hqM (Classical.not_not.1 hz)
          rw [← hq] at hc1
          have C1 := Lib.hid hc1
          have HQ := Lib.hid (And.intro hqM (And.intro hq hz))
          clear hz hq hqM hc1
          go_wp2_with (first
            | (go_at_call 26; (with_reducible refine (CD.out _).mono ?_); rintro e w' ⟨rfl, rfl⟩)
            | (go_at_call 10; (with_reducible refine (CE.out _).mono ?_); rintro e w' ⟨rfl, rfl⟩)
            | (go_at_call 31
               (with_reducible refine C1.out.mono ?_)
               rintro e w3 ⟨rfl, hd, ho⟩
               have HB3 : Hid (Below w.heap.size w w3) := below_one HB.out HB.out.size ho HGX.out.1.1
               have HD3 := Lib.hid hd
               have HR3 : Hid (DkAt 106 w3 x M st) := HR.out.off ho HGX.out.2.2
               have hc2 := rend_yes q HR3.out HQ.out.1 (Classical.not_not.1 HQ.out.2.2)
               rw [← HQ.out.2.1] at hc2
               have C2 := Lib.hid hc2
               clear hd ho hc2)
            | (go_at_call 32
               (with_reducible refine C2.out.mono ?_)
               rintro e w4 ⟨rfl, hr, ho⟩
               have HD4 : Hid (DkAt 104 w4 g M (st.set q 2)) := HD3.out.off ho HGX.out.2.1
               have HR4 := Lib.hid hr
               have HB4 : Hid (Below w.heap.size w w4) := below_one HB3.out HB3.out.size ho HGX.out.1.2
               have CS := Lib.hid (state_any ((D : Int) - 2) HD4.out)
               have CRS := Lib.hid (rstate_any ((D : Int) - 2) HR4.out)
               have CM := Lib.hid (many_any HD4.out)
               clear hr ho)
            | (go_at_call 33; (with_reducible refine CS.out.mono ?_); rintro e w5 ⟨rfl, rfl⟩)
            | (go_at_call 34; (with_reducible refine CRS.out.mono ?_); rintro e w5 ⟨rfl, rfl⟩)
            | (go_at_call 35
               (with_reducible refine CM.out.mono ?_)
               rintro e w6 ⟨rfl, hb⟩
               have HB6 := Lib.hid (HB4.out.trans (hb.mono HB4.out.size))
               have HD6 := Lib.hid (HD4.out.below hb)
               have HR6 := Lib.hid (HR4.out.below hb)
               have CRM := Lib.hid (rmany_any HR6.out)
               clear hb)
            | (go_at_call 36; (with_reducible refine CRM.out.mono ?_); rintro e w7 ⟨rfl, rfl⟩))
          go_roundw
          case rel => exact ⟨k + 1, (st.set q 2), by have := HLT.out; omega, by go_num, HD6, HR6, HB6⟩
          case measure => simp [intOf]; omega
    · have hik : ¬ (k : Int) < (L : Int) := by omega
      go_wp2_with fail
      go_loopw [15] (fun i wq => ∃ j : Nat, j ≤ 35 ∧ i = .int .i64 ((j : Int) - 1) ∧ wr = wq) (fun i _ => 40 - (intOf i + 2).toNat)
      case atStart => exact ⟨0, by omega, rfl, rfl⟩
      case round =>
        obtain ⟨j, hj, rfl, rfl⟩ := hrel
        by_cases hj2 : j < 35
        · have hji : (j : Int) - 1 < 34 := by omega
          have CS := Lib.hid (state_any ((j : Int) - 1) HD.out)
          have CRS := Lib.hid (rstate_any ((j : Int) - 1) HR.out)
          go_wp2_with (first
            | (go_at_call 33; (with_reducible refine CS.out.mono ?_); rintro e w5 ⟨rfl, rfl⟩)
            | (go_at_call 34; (with_reducible refine CRS.out.mono ?_); rintro e w5 ⟨rfl, rfl⟩))
          go_roundw
          case rel => exact ⟨j + 1, by omega, by go_num, by first | rfl | trivial⟩
          case measure => simp [intOf]; omega
        · have hji : ¬ (j : Int) - 1 < 34 := by omega
          go_wp2_with fail
          go_ret
          exact ⟨rfl, HB.out⟩

set_option maxRecDepth 100000 in
set_option maxHeartbeats 8000000 in
theorem dplays_false (a0 : Int) (S : Option Addr) (L d : Nat) (ks : List Int) (mo : Int) (M : Nat) (w : World) (hs : Row .i64 w w.heap.size S L ks) (hk : ∀ k ∈ ks, -9223372036854775808 ≤ k ∧ k ≤ 9223372036854775807) (b0 : -9223372036854775808 ≤ a0 ∧ a0 ≤ 9223372036854775807)
    (hmo : mo = a0) (hM : (M : Int) = if 32 < (if mo < 0 then 0 else mo) then 32 else (if mo < 0 then 0 else mo)) (hL : L ≤ 200) :
    Calls Try.prog 6 #[.int .i64 a0, .bool false, .slice S L d] w fun e w' => e = .returned (.bool true) ∧ Below w.heap.size w w' := by
  have hi2 : ¬ (200 : Int) < (L : Int) := by omega
  have CN := Lib.hid (fun W => dnew_any mo M W hM)
  have CR := Lib.hid (fun W => rdnew_any mo M W hM)
  have CW := Lib.hid (fun W => within_any a0 6 W b0.1 b0.2 (by omega) (by omega))
  have HS := Lib.hid hs
  have HK := Lib.hid hk
  clear hs hk hM b0
  subst hmo
  go_enter Try.func6, Try.ntmps6
  go_wp2_with (first
    | (go_at_call 23; refine (dawake_any _).mono ?_; rintro e w1 ⟨rfl, hb⟩; have HB1 := Lib.hid hb; clear hb)
    | (go_at_call 10; (with_reducible refine (CW.out _).mono ?_); rintro e w' ⟨rfl, rfl⟩)
    | (go_at_call 24
       (with_reducible refine (CN.out _).mono ?_)
       rintro e w2 ⟨rfl, hd, hb⟩
       have HB2 := Lib.hid (HB1.out.trans (hb.mono HB1.out.size))
       have HD2 := Lib.hid hd
       have HGE := Lib.hid HB1.out.size
       obtain ⟨g, hg⟩ : ∃ g, w1.heap.size = g := ⟨_, rfl⟩
       rw [hg] at HD2 HGE
       rw [hg]
       clear hd hb hg)
    | (go_at_call 25
       (with_reducible refine (CR.out _).mono ?_)
       rintro e w3 ⟨rfl, hr, hb⟩
       have HB3 := Lib.hid (HB2.out.trans (hb.mono HB2.out.size))
       have HR3 := Lib.hid hr
       have HD3 := Lib.hid (HD2.out.below hb)
       have HGX : Hid ((w.heap.size ≤ g ∧ w.heap.size ≤ w2.heap.size) ∧ g ≠ w2.heap.size ∧ w2.heap.size ≠ g) := by
         have h1 := HD2.out.lt
         have h2 := HGE.out
         exact ⟨⟨h2, by omega⟩, by omega, by omega⟩
       obtain ⟨x, hx⟩ : ∃ x, w2.heap.size = x := ⟨_, rfl⟩
       rw [hx] at HR3 HGX
       rw [hx]
       clear hr hb hx))
  go_loopw [9] (fun i wr => ∃ (k : Nat) (st : List Int), k ≤ L ∧ i = .int .i64 (k : Int) ∧ Hid (DkAt 104 wr g M st) ∧ Hid (DkAt 106 wr x M st) ∧ Hid (Below w.heap.size w wr)) (fun i _ => L - (intOf i).toNat)
  case atStart => exact ⟨0, List.replicate 32 0, by omega, rfl, HD3, HR3, HB3⟩
  case round =>
    obtain ⟨k, st, hk, rfl, HD, HR, HB⟩ := hrel
    by_cases hlt : k < L
    · obtain ⟨bS, offS, hS, hbS, hcell⟩ := HS.out.2 (by omega)
      subst hS
      have hsk := hcell k hlt
      obtain ⟨s, hs⟩ : ∃ s, ks.getD k 0 = s := ⟨_, rfl⟩
      have hsb := HK.out s (by
        have hl := HS.out.1
        rw [← hs, List.getD_eq_getElem?_getD, List.getElem?_eq_getElem (by omega)]
        exact List.getElem_mem _)
      rw [hs] at hsk
      obtain ⟨E, hE⟩ := Int.eq_ofNat_of_zero_le (Int.emod_nonneg s (show (4 : Int) ≠ 0 by omega))
      obtain ⟨D, hD⟩ := Int.eq_ofNat_of_zero_le (Int.emod_nonneg (s.tdiv 4) (show (36 : Int) ≠ 0 by omega))
      have CE := Lib.hid (fun W => within_any s 4 W hsb.1 hsb.2 (by omega) (by omega))
      rw [hE] at CE
      have CD := Lib.hid (fun W => digit_by s 4 36 D W hD hsb.1 hsb.2 (by omega) (by omega) (by omega) (by omega))
      have hE2 : E < 4 := by omega
      have hD2 : D < 36 := by omega
      have hwrS : wr.cell? ⟨bS, offS + k, none⟩ = some (.int .i64 s) := (HB.out.cell hbS).trans hsk
      clear hcell hs hE hD hsk hsb
      have hik : (k : Int) < (L : Int) := by omega
      have HLT := Lib.hid hlt
      clear hlt
      have hcase : E = 0 ∨ E = 1 ∨ E = 2 ∨ E = 3 := by omega
      clear hE2
      rcases hcase with rfl | rfl | rfl | rfl
      · skip
        obtain ⟨q, hq, hbf, hq0⟩ := first_free st M
        by_cases hqM : q < M
        · have h0 := hq0 hqM
          have C1 := Lib.hid (open_yes q HD.out hqM hbf h0)
          have HQ := Lib.hid (And.intro hqM (And.intro hbf h0))
          clear hq0 hbf h0 hq hqM
          go_wp2_with (first
            | (go_at_call 26; (with_reducible refine (CD.out _).mono ?_); rintro e w' ⟨rfl, rfl⟩)
            | (go_at_call 10; (with_reducible refine (CE.out _).mono ?_); rintro e w' ⟨rfl, rfl⟩)
            | (go_at_call 27
               (with_reducible refine C1.out.mono ?_)
               rintro e w3 ⟨rfl, hd, ho⟩
               have HB3 : Hid (Below w.heap.size w w3) := below_one HB.out HB.out.size ho HGX.out.1.1
               have HD3 := Lib.hid hd
               have HR3 : Hid (DkAt 106 w3 x M st) := HR.out.off ho HGX.out.2.2
               have C2 := Lib.hid (ropen_yes q HR3.out HQ.out.1 HQ.out.2.1 HQ.out.2.2)
               clear hd ho)
            | (go_at_call 28
               (with_reducible refine C2.out.mono ?_)
               rintro e w4 ⟨rfl, hr, ho⟩
               have HD4 : Hid (DkAt 104 w4 g M (st.set q 1)) := HD3.out.off ho HGX.out.2.1
               have HR4 := Lib.hid hr
               have HB4 : Hid (Below w.heap.size w w4) := below_one HB3.out HB3.out.size ho HGX.out.1.2
               have CS := Lib.hid (state_any ((D : Int) - 2) HD4.out)
               have CRS := Lib.hid (rstate_any ((D : Int) - 2) HR4.out)
               have CM := Lib.hid (many_any HD4.out)
               clear hr ho)
            | (go_at_call 33; (with_reducible refine CS.out.mono ?_); rintro e w5 ⟨rfl, rfl⟩)
            | (go_at_call 34; (with_reducible refine CRS.out.mono ?_); rintro e w5 ⟨rfl, rfl⟩)
            | (go_at_call 35
               (with_reducible refine CM.out.mono ?_)
               rintro e w6 ⟨rfl, hb⟩
               have HB6 := Lib.hid (HB4.out.trans (hb.mono HB4.out.size))
               have HD6 := Lib.hid (HD4.out.below hb)
               have HR6 := Lib.hid (HR4.out.below hb)
               have CRM := Lib.hid (rmany_any HR6.out)
               clear hb)
            | (go_at_call 36; (with_reducible refine CRM.out.mono ?_); rintro e w7 ⟨rfl, rfl⟩))
          go_roundw
          case rel => exact ⟨k + 1, (st.set q 1), by have := HLT.out; omega, by go_num, HD6, HR6, HB6⟩
          case measure => simp [intOf]; omega
        · have hal : ∀ j, j < M → st.getD j 0 ≠ 0 := fun j hj => hbf j (by omega)
          have C1 := Lib.hid (open_no HD.out hal)
          have C2 := Lib.hid (ropen_no HR.out hal)
          clear hq0 hbf hq hqM hal
          have HD4 := HD
          have HR4 := HR
          have HB4 := HB
          have CS := Lib.hid (state_any ((D : Int) - 2) HD4.out)
          have CRS := Lib.hid (rstate_any ((D : Int) - 2) HR4.out)
          have CM := Lib.hid (many_any HD4.out)
          go_wp2_with (first
            | (go_at_call 26; (with_reducible refine (CD.out _).mono ?_); rintro e w' ⟨rfl, rfl⟩)
            | (go_at_call 10; (with_reducible refine (CE.out _).mono ?_); rintro e w' ⟨rfl, rfl⟩)
            | (go_at_call 27; (with_reducible refine C1.out.mono ?_); rintro e w3 ⟨rfl, rfl⟩)
            | (go_at_call 28; (with_reducible refine C2.out.mono ?_); rintro e w3 ⟨rfl, rfl⟩)
            | (go_at_call 33; (with_reducible refine CS.out.mono ?_); rintro e w5 ⟨rfl, rfl⟩)
            | (go_at_call 34; (with_reducible refine CRS.out.mono ?_); rintro e w5 ⟨rfl, rfl⟩)
            | (go_at_call 35
               (with_reducible refine CM.out.mono ?_)
               rintro e w6 ⟨rfl, hb⟩
               have HB6 := Lib.hid (HB4.out.trans (hb.mono HB4.out.size))
               have HD6 := Lib.hid (HD4.out.below hb)
               have HR6 := Lib.hid (HR4.out.below hb)
               have CRM := Lib.hid (rmany_any HR6.out)
               clear hb)
            | (go_at_call 36; (with_reducible refine CRM.out.mono ?_); rintro e w7 ⟨rfl, rfl⟩))
          go_roundw
          case rel => exact ⟨k + 1, st, by have := HLT.out; omega, by go_num, HD6, HR6, HB6⟩
          case measure => simp [intOf]; omega
      · skip
        obtain ⟨q, hq, hbf, hq0⟩ := first_free st M
        by_cases hqM : q < M
        · have h0 := hq0 hqM
          have C1 := Lib.hid (open_yes q HD.out hqM hbf h0)
          have HQ := Lib.hid (And.intro hqM (And.intro hbf h0))
          clear hq0 hbf h0 hq hqM
          go_wp2_with (first
            | (go_at_call 26; (with_reducible refine (CD.out _).mono ?_); rintro e w' ⟨rfl, rfl⟩)
            | (go_at_call 10; (with_reducible refine (CE.out _).mono ?_); rintro e w' ⟨rfl, rfl⟩)
            | (go_at_call 27
               (with_reducible refine C1.out.mono ?_)
               rintro e w3 ⟨rfl, hd, ho⟩
               have HB3 : Hid (Below w.heap.size w w3) := below_one HB.out HB.out.size ho HGX.out.1.1
               have HD3 := Lib.hid hd
               have HR3 : Hid (DkAt 106 w3 x M st) := HR.out.off ho HGX.out.2.2
               have C2 := Lib.hid (ropen_yes q HR3.out HQ.out.1 HQ.out.2.1 HQ.out.2.2)
               clear hd ho)
            | (go_at_call 28
               (with_reducible refine C2.out.mono ?_)
               rintro e w4 ⟨rfl, hr, ho⟩
               have HD4 : Hid (DkAt 104 w4 g M (st.set q 1)) := HD3.out.off ho HGX.out.2.1
               have HR4 := Lib.hid hr
               have HB4 : Hid (Below w.heap.size w w4) := below_one HB3.out HB3.out.size ho HGX.out.1.2
               have CS := Lib.hid (state_any ((D : Int) - 2) HD4.out)
               have CRS := Lib.hid (rstate_any ((D : Int) - 2) HR4.out)
               have CM := Lib.hid (many_any HD4.out)
               clear hr ho)
            | (go_at_call 33; (with_reducible refine CS.out.mono ?_); rintro e w5 ⟨rfl, rfl⟩)
            | (go_at_call 34; (with_reducible refine CRS.out.mono ?_); rintro e w5 ⟨rfl, rfl⟩)
            | (go_at_call 35
               (with_reducible refine CM.out.mono ?_)
               rintro e w6 ⟨rfl, hb⟩
               have HB6 := Lib.hid (HB4.out.trans (hb.mono HB4.out.size))
               have HD6 := Lib.hid (HD4.out.below hb)
               have HR6 := Lib.hid (HR4.out.below hb)
               have CRM := Lib.hid (rmany_any HR6.out)
               clear hb)
            | (go_at_call 36; (with_reducible refine CRM.out.mono ?_); rintro e w7 ⟨rfl, rfl⟩))
          go_roundw
          case rel => exact ⟨k + 1, (st.set q 1), by have := HLT.out; omega, by go_num, HD6, HR6, HB6⟩
          case measure => simp [intOf]; omega
        · have hal : ∀ j, j < M → st.getD j 0 ≠ 0 := fun j hj => hbf j (by omega)
          have C1 := Lib.hid (open_no HD.out hal)
          have C2 := Lib.hid (ropen_no HR.out hal)
          clear hq0 hbf hq hqM hal
          have HD4 := HD
          have HR4 := HR
          have HB4 := HB
          have CS := Lib.hid (state_any ((D : Int) - 2) HD4.out)
          have CRS := Lib.hid (rstate_any ((D : Int) - 2) HR4.out)
          have CM := Lib.hid (many_any HD4.out)
          go_wp2_with (first
            | (go_at_call 26; (with_reducible refine (CD.out _).mono ?_); rintro e w' ⟨rfl, rfl⟩)
            | (go_at_call 10; (with_reducible refine (CE.out _).mono ?_); rintro e w' ⟨rfl, rfl⟩)
            | (go_at_call 27; (with_reducible refine C1.out.mono ?_); rintro e w3 ⟨rfl, rfl⟩)
            | (go_at_call 28; (with_reducible refine C2.out.mono ?_); rintro e w3 ⟨rfl, rfl⟩)
            | (go_at_call 33; (with_reducible refine CS.out.mono ?_); rintro e w5 ⟨rfl, rfl⟩)
            | (go_at_call 34; (with_reducible refine CRS.out.mono ?_); rintro e w5 ⟨rfl, rfl⟩)
            | (go_at_call 35
               (with_reducible refine CM.out.mono ?_)
               rintro e w6 ⟨rfl, hb⟩
               have HB6 := Lib.hid (HB4.out.trans (hb.mono HB4.out.size))
               have HD6 := Lib.hid (HD4.out.below hb)
               have HR6 := Lib.hid (HR4.out.below hb)
               have CRM := Lib.hid (rmany_any HR6.out)
               clear hb)
            | (go_at_call 36; (with_reducible refine CRM.out.mono ?_); rintro e w7 ⟨rfl, rfl⟩))
          go_roundw
          case rel => exact ⟨k + 1, st, by have := HLT.out; omega, by go_num, HD6, HR6, HB6⟩
          case measure => simp [intOf]; omega
      · skip
        by_cases hz : dSt M st ((D : Int) - 2) = 0
        · have C1 := Lib.hid (close_no ((D : Int) - 2) HD.out hz)
          have C2 := Lib.hid (rclose_no ((D : Int) - 2) HR.out hz)
          clear hz
          have HD4 := HD
          have HR4 := HR
          have HB4 := HB
          have CS := Lib.hid (state_any ((D : Int) - 2) HD4.out)
          have CRS := Lib.hid (rstate_any ((D : Int) - 2) HR4.out)
          have CM := Lib.hid (many_any HD4.out)
          go_wp2_with (first
            | (go_at_call 26; (with_reducible refine (CD.out _).mono ?_); rintro e w' ⟨rfl, rfl⟩)
            | (go_at_call 10; (with_reducible refine (CE.out _).mono ?_); rintro e w' ⟨rfl, rfl⟩)
            | (go_at_call 29; (with_reducible refine C1.out.mono ?_); rintro e w3 ⟨rfl, rfl⟩)
            | (go_at_call 30; (with_reducible refine C2.out.mono ?_); rintro e w3 ⟨rfl, rfl⟩)
            | (go_at_call 33; (with_reducible refine CS.out.mono ?_); rintro e w5 ⟨rfl, rfl⟩)
            | (go_at_call 34; (with_reducible refine CRS.out.mono ?_); rintro e w5 ⟨rfl, rfl⟩)
            | (go_at_call 35
               (with_reducible refine CM.out.mono ?_)
               rintro e w6 ⟨rfl, hb⟩
               have HB6 := Lib.hid (HB4.out.trans (hb.mono HB4.out.size))
               have HD6 := Lib.hid (HD4.out.below hb)
               have HR6 := Lib.hid (HR4.out.below hb)
               have CRM := Lib.hid (rmany_any HR6.out)
               clear hb)
            | (go_at_call 36; (with_reducible refine CRM.out.mono ?_); rintro e w7 ⟨rfl, rfl⟩))
          go_roundw
          case rel => exact ⟨k + 1, st, by have := HLT.out; omega, by go_num, HD6, HR6, HB6⟩
          case measure => simp [intOf]; omega
        · obtain ⟨q, hq, hqM⟩ := dst_ex (M := M) (st := st) (c := (D : Int) - 2) hz
          rw [hq, dSt_in hqM] at hz
          have hc1 := close_yes q HD.out hqM hz
          rw [← hq] at hc1
          have C1 := Lib.hid hc1
          have HQ := Lib.hid (And.intro hqM (And.intro hq hz))
          clear hz hq hqM hc1
          go_wp2_with (first
            | (go_at_call 26; (with_reducible refine (CD.out _).mono ?_); rintro e w' ⟨rfl, rfl⟩)
            | (go_at_call 10; (with_reducible refine (CE.out _).mono ?_); rintro e w' ⟨rfl, rfl⟩)
            | (go_at_call 29
               (with_reducible refine C1.out.mono ?_)
               rintro e w3 ⟨rfl, hd, ho⟩
               have HB3 : Hid (Below w.heap.size w w3) := below_one HB.out HB.out.size ho HGX.out.1.1
               have HD3 := Lib.hid hd
               have HR3 : Hid (DkAt 106 w3 x M st) := HR.out.off ho HGX.out.2.2
               have hc2 := rclose_yes q HR3.out HQ.out.1 HQ.out.2.2
               rw [← HQ.out.2.1] at hc2
               have C2 := Lib.hid hc2
               clear hd ho hc2)
            | (go_at_call 30
               (with_reducible refine C2.out.mono ?_)
               rintro e w4 ⟨rfl, hr, ho⟩
               have HD4 : Hid (DkAt 104 w4 g M (st.set q 0)) := HD3.out.off ho HGX.out.2.1
               have HR4 := Lib.hid hr
               have HB4 : Hid (Below w.heap.size w w4) := below_one HB3.out HB3.out.size ho HGX.out.1.2
               have CS := Lib.hid (state_any ((D : Int) - 2) HD4.out)
               have CRS := Lib.hid (rstate_any ((D : Int) - 2) HR4.out)
               have CM := Lib.hid (many_any HD4.out)
               clear hr ho)
            | (go_at_call 33; (with_reducible refine CS.out.mono ?_); rintro e w5 ⟨rfl, rfl⟩)
            | (go_at_call 34; (with_reducible refine CRS.out.mono ?_); rintro e w5 ⟨rfl, rfl⟩)
            | (go_at_call 35
               (with_reducible refine CM.out.mono ?_)
               rintro e w6 ⟨rfl, hb⟩
               have HB6 := Lib.hid (HB4.out.trans (hb.mono HB4.out.size))
               have HD6 := Lib.hid (HD4.out.below hb)
               have HR6 := Lib.hid (HR4.out.below hb)
               have CRM := Lib.hid (rmany_any HR6.out)
               clear hb)
            | (go_at_call 36; (with_reducible refine CRM.out.mono ?_); rintro e w7 ⟨rfl, rfl⟩))
          go_roundw
          case rel => exact ⟨k + 1, (st.set q 0), by have := HLT.out; omega, by go_num, HD6, HR6, HB6⟩
          case measure => simp [intOf]; omega
      · skip
        by_cases hz : dSt M st ((D : Int) - 2) ≠ 1
        · have C1 := Lib.hid (end_no ((D : Int) - 2) HD.out hz)
          have C2 := Lib.hid (rend_no ((D : Int) - 2) HR.out hz)
          clear hz
          have HD4 := HD
          have HR4 := HR
          have HB4 := HB
          have CS := Lib.hid (state_any ((D : Int) - 2) HD4.out)
          have CRS := Lib.hid (rstate_any ((D : Int) - 2) HR4.out)
          have CM := Lib.hid (many_any HD4.out)
          go_wp2_with (first
            | (go_at_call 26; (with_reducible refine (CD.out _).mono ?_); rintro e w' ⟨rfl, rfl⟩)
            | (go_at_call 10; (with_reducible refine (CE.out _).mono ?_); rintro e w' ⟨rfl, rfl⟩)
            | (go_at_call 31; (with_reducible refine C1.out.mono ?_); rintro e w3 ⟨rfl, rfl⟩)
            | (go_at_call 32; (with_reducible refine C2.out.mono ?_); rintro e w3 ⟨rfl, rfl⟩)
            | (go_at_call 33; (with_reducible refine CS.out.mono ?_); rintro e w5 ⟨rfl, rfl⟩)
            | (go_at_call 34; (with_reducible refine CRS.out.mono ?_); rintro e w5 ⟨rfl, rfl⟩)
            | (go_at_call 35
               (with_reducible refine CM.out.mono ?_)
               rintro e w6 ⟨rfl, hb⟩
               have HB6 := Lib.hid (HB4.out.trans (hb.mono HB4.out.size))
               have HD6 := Lib.hid (HD4.out.below hb)
               have HR6 := Lib.hid (HR4.out.below hb)
               have CRM := Lib.hid (rmany_any HR6.out)
               clear hb)
            | (go_at_call 36; (with_reducible refine CRM.out.mono ?_); rintro e w7 ⟨rfl, rfl⟩))
          go_roundw
          case rel => exact ⟨k + 1, st, by have := HLT.out; omega, by go_num, HD6, HR6, HB6⟩
          case measure => simp [intOf]; omega
        · obtain ⟨q, hq, hqM⟩ := dst_ex (M := M) (st := st) (c := (D : Int) - 2) (by rw [Classical.not_not.1 hz]; decide)
          rw [hq, dSt_in hqM] at hz
          have hc1 := end_yes q HD.out hqM (Classical.not_not.1 hz)
          rw [← hq] at hc1
          have C1 := Lib.hid hc1
          have HQ := Lib.hid (And.intro hqM (And.intro hq hz))
          clear hz hq hqM hc1
          go_wp2_with (first
            | (go_at_call 26; (with_reducible refine (CD.out _).mono ?_); rintro e w' ⟨rfl, rfl⟩)
            | (go_at_call 10; (with_reducible refine (CE.out _).mono ?_); rintro e w' ⟨rfl, rfl⟩)
            | (go_at_call 31
               (with_reducible refine C1.out.mono ?_)
               rintro e w3 ⟨rfl, hd, ho⟩
               have HB3 : Hid (Below w.heap.size w w3) := below_one HB.out HB.out.size ho HGX.out.1.1
               have HD3 := Lib.hid hd
               have HR3 : Hid (DkAt 106 w3 x M st) := HR.out.off ho HGX.out.2.2
               have hc2 := rend_yes q HR3.out HQ.out.1 (Classical.not_not.1 HQ.out.2.2)
               rw [← HQ.out.2.1] at hc2
               have C2 := Lib.hid hc2
               clear hd ho hc2)
            | (go_at_call 32
               (with_reducible refine C2.out.mono ?_)
               rintro e w4 ⟨rfl, hr, ho⟩
               have HD4 : Hid (DkAt 104 w4 g M (st.set q 2)) := HD3.out.off ho HGX.out.2.1
               have HR4 := Lib.hid hr
               have HB4 : Hid (Below w.heap.size w w4) := below_one HB3.out HB3.out.size ho HGX.out.1.2
               have CS := Lib.hid (state_any ((D : Int) - 2) HD4.out)
               have CRS := Lib.hid (rstate_any ((D : Int) - 2) HR4.out)
               have CM := Lib.hid (many_any HD4.out)
               clear hr ho)
            | (go_at_call 33; (with_reducible refine CS.out.mono ?_); rintro e w5 ⟨rfl, rfl⟩)
            | (go_at_call 34; (with_reducible refine CRS.out.mono ?_); rintro e w5 ⟨rfl, rfl⟩)
            | (go_at_call 35
               (with_reducible refine CM.out.mono ?_)
               rintro e w6 ⟨rfl, hb⟩
               have HB6 := Lib.hid (HB4.out.trans (hb.mono HB4.out.size))
               have HD6 := Lib.hid (HD4.out.below hb)
               have HR6 := Lib.hid (HR4.out.below hb)
               have CRM := Lib.hid (rmany_any HR6.out)
               clear hb)
            | (go_at_call 36; (with_reducible refine CRM.out.mono ?_); rintro e w7 ⟨rfl, rfl⟩))
          go_roundw
          case rel => exact ⟨k + 1, (st.set q 2), by have := HLT.out; omega, by go_num, HD6, HR6, HB6⟩
          case measure => simp [intOf]; omega
    · have hik : ¬ (k : Int) < (L : Int) := by omega
      go_wp2_with fail
      go_loopw [15] (fun i wq => ∃ j : Nat, j ≤ 35 ∧ i = .int .i64 ((j : Int) - 1) ∧ wr = wq) (fun i _ => 40 - (intOf i + 2).toNat)
      case atStart => exact ⟨0, by omega, rfl, rfl⟩
      case round =>
        obtain ⟨j, hj, rfl, rfl⟩ := hrel
        by_cases hj2 : j < 35
        · have hji : (j : Int) - 1 < 34 := by omega
          have CS := Lib.hid (state_any ((j : Int) - 1) HD.out)
          have CRS := Lib.hid (rstate_any ((j : Int) - 1) HR.out)
          go_wp2_with (first
            | (go_at_call 33; (with_reducible refine CS.out.mono ?_); rintro e w5 ⟨rfl, rfl⟩)
            | (go_at_call 34; (with_reducible refine CRS.out.mono ?_); rintro e w5 ⟨rfl, rfl⟩))
          go_roundw
          case rel => exact ⟨j + 1, by omega, by go_num, by first | rfl | trivial⟩
          case measure => simp [intOf]; omega
        · have hji : ¬ (j : Int) - 1 < 34 := by omega
          go_wp2_with fail
          go_ret
          exact ⟨rfl, HB.out⟩

theorem walk (a0 : Int) (a1 : Bool) (a2 : Option Addr) (len2 cap2 : Nat) (z2 : List Int) (w : World) (w0 : (Lit.int .i64 a0).wf = true) (w2 : IsRow .i64 w a2 len2 cap2 z2) :
    Calls Try.prog 6 #[.int .i64 a0, .bool a1, .slice a2 len2 cap2] w fun e w' => e = .returned (.bool true) ∧ Below w.heap.size w w' := by
  by_cases h : 200 < len2
  · exact walk_long _ _ _ _ _ w h
  · cases a1
    · obtain ⟨M, hM⟩ := Int.eq_ofNat_of_zero_le (show (0 : Int) ≤ if 32 < (if a0 < 0 then 0 else a0) then 32 else (if a0 < 0 then 0 else a0) by split <;> split <;> omega)
      exact dplays_false a0 a2 len2 cap2 _ a0 M w w2.row (fun k hk => bounds_i64 (w2.wf k hk)) (bounds_i64 w0) rfl hM.symm (by omega)
    · obtain ⟨M, hM⟩ := Int.eq_ofNat_of_zero_le (show (0 : Int) ≤ if 32 < (if a0 % 6 < 0 then 0 else a0 % 6) then 32 else (if a0 % 6 < 0 then 0 else a0 % 6) by split <;> split <;> omega)
      exact dplays_true a0 a2 len2 cap2 _ (a0 % 6) M w w2.row (fun k hk => bounds_i64 (w2.wf k hk)) (bounds_i64 w0) rfl hM.symm (by omega)

/-! ### THE ROW's STEP: WRITTEN OUT: LEAVE IT -/
set_option maxRecDepth 100000 in
theorem lifted (os : Os) (started : os.Started) (H : Type) (enc : TypeId × Value → H) :
    ReturnsInHanded {} Try.checked os 6 .any (Rows.deskPlaysSpec.pre6 enc Try.prog Try.f6 Rows.deskPlaysRow.domain false) (Rows.deskPlaysSpec.post enc Try.prog Try.f6 false true false false) := by
  refine returnsInHanded_of_change (C := Try.checked) own started (by kernel_rfl) Try.func6
    (ChangeSpec.witness6 (enc := enc) (C := Try.checked) false ⟨#[], #[.int .i64 0, .bool false, .slice none 0 0], []⟩ 8 (by kernel_rfl) (by kernel_rfl) (by kernel_rfl) (by kernel_rfl)) ?_
  intro W base args ds gs before hval0 hW hcnd _
  have hval : ∀ (j : Nat) t v, Try.f6.params[j]? = some t → args[j]? = some v → Value.okWide Try.prog W .any base t v := hval0
  have hW' := hW
  obtain ⟨p, q, hA0, hV, rfl, hfz, hnd⟩ := hW
  have hA : DataW.TrodAll enc Try.prog W 0 (fun _ => true) true Try.f6.params.toList args.toList ds p := hA0
  rw [Try.params6] at hA hval
  obtain ⟨v0, vs0, d0, ds0, p0, q0, hargs, rfl, rfl, h0, r0⟩ := trodAll_cons hA
  obtain ⟨v1, vs1, d1, ds1, p1, q1, rfl, rfl, rfl, h1, r1⟩ := trodAll_cons r0
  obtain ⟨v2, vs2, d2, ds2, p2, q2, rfl, rfl, rfl, h2, r2⟩ := trodAll_cons r1
  obtain ⟨rfl, rfl, rfl⟩ := trodAll_nil r2
  obtain rfl : args = #[v0, v1, v2] := by cases args; simp_all
  obtain ⟨rfl, rfl⟩ := trodVars_none hV
  obtain ⟨a0, rfl, rfl, rfl, w0⟩ := open_int Try.underlying3 (hval 0 3 v0 rfl rfl) h0
  obtain ⟨a1, rfl, rfl, rfl⟩ := open_bool Try.underlying4 (hval 1 4 v1 rfl rfl) h1
  obtain ⟨a2, len2, cap2, rfl⟩ := okWide_slice Try.underlying43 (hval 2 43 v2 rfl rfl)
  have k2 := h2
  have lt2 : ∀ x ∈ p2, x.block < W.heap.size := by obtain ⟨m, hm⟩ := k2; exact DataW.trod_lt m _ _ _ hm
  obtain ⟨z2, w2⟩ : ∃ zs, IsRow .i64 W a2 len2 cap2 zs := by
    obtain ⟨fuel, hf⟩ := h2
    rcases open_ints Try.underlying43 Try.underlying3 (by kernel_rfl) hf with ⟨hcs, _⟩ | ⟨x, l, c, zs, hcs, _, hl, hm, hz, _, hcell, hwz⟩
    · simp [Value.cells] at hcs
      obtain ⟨rfl, rfl, rfl⟩ := hcs
      exact ⟨[], .inl ⟨rfl, rfl, rfl, rfl⟩⟩
    · simp [Value.cells] at hcs
      obtain ⟨rfl, rfl, rfl⟩ := hcs
      exact ⟨zs, .inr ⟨_, rfl, hl, hm, by simpa using hz, hcell, hwz⟩⟩
  clear hA0 hval0
  refine (walk a0 a1 a2 len2 cap2 z2 W w0 w2).mono fun e W' ⟨he, bel⟩ => ?_
  subst he
  exact ⟨_, rfl, _, _, _, [], _, [], hW', trodAll_mk1 (shut_bool Try.underlying4 _), (trodAll_cons_mk (shut_int Try.underlying3 w0) (trodAll_cons_mk (shut_bool Try.underlying4 _) (trodAll_cons_mk (Below.trod laidOut (by kernel_rfl) (of_decide_eq_true (by kernel_rfl)) k2 bel lt2) trodAll_mk0))), rfl, bel.frame _, fun h => by cases h⟩

theorem over : Rows.deskPlaysRow.holds Try.pinned (OpenSpec.ofChange Rows.deskPlaysSpec) :=
  OpenClaim.holds_of_wide 6 Try.f6 rfl rfl rfl rfl rfl rfl rfl ⟨rfl, rfl, rfl, rfl, rfl⟩ rfl rfl rfl rfl rfl (by kernel_rfl) Try.func6 (by kernel_rfl)
    (of_decide_eq_true (by kernel_rfl)) (by unfold Func.isWrapper; first | (rw [if_pos (by decide +kernel)]; kernel_rfl) | (rw [if_neg (by decide +kernel)]; exact ⟨rfl, rfl⟩))
    (fun os started H enc _ => lifted os started H enc)

/-- ████ THE STATEMENT ████ -/
theorem proved : Rows.DeskPlaysSaid := over
#print axioms proved
end Go.Proofs.Ytokljdkbheogoaa.deskPlays

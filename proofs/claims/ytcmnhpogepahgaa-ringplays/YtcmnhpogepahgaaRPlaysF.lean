/- RingPlays, its second argument false. No statement is proved here. -/
import Derived.Test.YtcmnhpogepahgaaPlayInv
namespace Go.Proofs.Ytcmnhpogepahgaa
open Go.ChangeShapes Go.WideShapes Go.ChangeAt Go.RowKit
set_option linter.unusedVariables false
set_option linter.unusedSimpArgs false

set_option maxRecDepth 100000 in
set_option maxHeartbeats 8000000 in
theorem rplays_false (a0 : Int) (S : Option Addr) (L d : Nat) (ks : List Int) (mo : Int) (M : Nat) (w : World) (hs : Row .i64 w w.heap.size S L ks) (hk : ∀ k ∈ ks, -9223372036854775808 ≤ k ∧ k ≤ 9223372036854775807) (b0 : -9223372036854775808 ≤ a0 ∧ a0 ≤ 9223372036854775807)
    (hmo : mo = a0) (hM : (M : Int) = if 65536 < (if mo < 0 then 0 else mo) then 65536 else (if mo < 0 then 0 else mo)) (hL : L ≤ 200) :
    Calls Try.prog 7 #[.int .i64 a0, .bool false, .slice S L d] w fun e w' => e = .returned (.bool true) ∧ Below w.heap.size w w' := by
  have hi2 : ¬ (200 : Int) < (L : Int) := by omega
  have hmb : -9223372036854775808 ≤ mo ∧ mo ≤ 9223372036854775807 := by omega
  have CN := Lib.hid (fun W => new_any mo M W hmb.1 hmb.2 hM)
  have CR := Lib.hid (fun W => refnew_any mo M W hmb.1 hmb.2 hM)
  have CW := Lib.hid (fun W => within_any a0 60 W b0.1 b0.2 (by omega) (by omega))
  have HS := Lib.hid hs
  have HK := Lib.hid hk
  clear hs hk hM b0 hmb
  subst hmo
  all_goals
    go_enter Try.func7, Try.ntmps7
    go_wp2_with (first
      | (go_at_call 33; refine (awake_any _).mono ?_; rintro e w1 ⟨rfl, hb⟩; have HB1 := Lib.hid hb; clear hb)
      | (go_at_call 22; (with_reducible refine (CW.out _).mono ?_); rintro e w' ⟨rfl, rfl⟩)
      | (go_at_call 34
         (with_reducible refine (CN.out _).mono ?_)
         rintro e w2 ⟨g, p, rfl, hr, hg, hp, hb⟩
         have HB2 := Lib.hid (HB1.out.trans (hb.mono HB1.out.size))
         have HR2 := Lib.hid hr
         have HGP : Hid (w.heap.size ≤ g ∧ w.heap.size ≤ p) := by have := HB1.out.size; show _ ∧ _; omega
         clear hr hg hp hb)
      | (go_at_call 35
         (with_reducible refine (CR.out _).mono ?_)
         rintro e w3 ⟨x, rfl, hx, hr, hb⟩
         have HB3 := Lib.hid (HB2.out.trans (hb.mono HB2.out.size))
         have HR3 := Lib.hid hr
         have HI3 : Hid (PlayInv w g p x M w3) := ⟨0, [], _, HR2.out.below hb, hr, HB3.out⟩
         have HGX : Hid ((w.heap.size ≤ g ∧ w.heap.size ≤ p) ∧ g < x ∧ p < x) := by have h1 := HR2.out.lt; have h2 := HGP.out; show _ ∧ _; omega
         clear hr hx hb))
    go_loopw [9, 10] (fun v i wr => ∃ k a : Nat, k ≤ L ∧ a ≤ 40 * k ∧ i = .int .i64 (k : Int) ∧ v = .int .i64 (a : Int) ∧ Hid (PlayInv w g p x M wr)) (fun _ i _ => L - (intOf i).toNat)
    case atStart => exact ⟨0, 0, by omega, by omega, rfl, rfl, HI3⟩
    case round =>
      obtain ⟨k, a, hk, ha, rfl, rfl, HI⟩ := hrel
      obtain ⟨wo, hwo⟩ : ∃ wo, wo = wr := ⟨_, rfl⟩
      subst hwo
      by_cases hlt : k < L
      · obtain ⟨bS, offS, hS, hbS, hcell⟩ := HS.out.2 (by omega)
        subst hS
        have hsk := hcell k hlt
        obtain ⟨s, hs⟩ : ∃ s, ks.getD k 0 = s := ⟨_, rfl⟩
        have hsb := HK.out s (by
          have hl := HS.out.1
          rw [← hs, List.getD_eq_getElem?_getD, List.getElem?_eq_getElem (by omega)]
          exact List.getElem_mem _)
        rw [hs] at hsk
        obtain ⟨E, hE⟩ := Int.eq_ofNat_of_zero_le (Int.emod_nonneg s (show (4 : Int) ≠ 0 by omega))
        obtain ⟨D, hD⟩ := Int.eq_ofNat_of_zero_le (Int.emod_nonneg (s.tdiv 4) (show (40 : Int) ≠ 0 by omega))
        have CE := Lib.hid (fun W => within_any s 4 W hsb.1 hsb.2 (by omega) (by omega))
        rw [hE] at CE
        have CD := Lib.hid (fun W => digit_by s 4 40 D W hD hsb.1 hsb.2 (by omega) (by omega) (by omega) (by omega))
        have hE2 : E < 4 := by omega
        have hD2 : D < 40 := by omega
        obtain ⟨f, qs, base, hring0, href0, hbel0⟩ := HI.out
        have hwrS : wo.cell? ⟨bS, offS + k, none⟩ = some (.int .i64 s) := (hbel0.cell hbS).trans hsk
        have HRING0 := Lib.hid hring0
        have HREF0 := Lib.hid href0
        have HBEL0 := Lib.hid hbel0
        obtain ⟨N, hN⟩ : ∃ N : Nat, ((D : Int) - 2 < 0 ∧ N = 0) ∨ (D : Int) - 2 = (N : Int) := by
          by_cases h : (D : Int) - 2 < 0
          · exact ⟨0, .inl ⟨h, rfl⟩⟩
          · exact ⟨D - 2, .inr (by omega)⟩
        have hNle : N ≤ 38 := by omega
        clear hcell hs hE hD hsk hring0 href0 hbel0 hsb HI
        have hik : (k : Int) < (L : Int) := by omega
        have HN := Lib.hid hN
        have hcase : E = 0 ∨ E = 1 ∨ E = 2 ∨ E = 3 := by omega
        rcases hcase with rfl | rfl | rfl | rfl
        · clear hN
          have CS := Lib.hid (some_any (a : Int) ((D : Int) - 2) N wo (by omega) (by omega) HN.out (by omega))
          go_wp2_with (first
            | (go_at_call 36; (with_reducible refine (CD.out _).mono ?_); rintro e w' ⟨rfl, rfl⟩)
            | (go_at_call 22; (with_reducible refine (CE.out _).mono ?_); rintro e w' ⟨rfl, rfl⟩)
            | (go_at_call 37
               (with_reducible refine CS.out.mono ?_)
               rintro e w1 ⟨A1, c1, rfl, ho1, hb1⟩
               have hr1 : Row .u8 w1 w1.heap.size A1 N (someL (a : Int) N) := (own_row ho1).ints
               have C2 := Lib.hid (lent_all A1 N c1 (someL (a : Int) N) w1 hr1 (by omega))
               have HO1 : Hid (RowOff w1 (fun k => k < wo.heap.size) A1 N (someL (a : Int) N)) := own_lo ho1
               have HC1 : Hid (N ≤ c1) := own_capI ho1
               have HB1 := Lib.hid hb1
               clear ho1 hb1 hr1)
            | (go_at_call 23
               (with_reducible refine C2.out.mono ?_)
               rintro e w2 ⟨rfl, hrA, _, hW2, hb2, hlt2⟩
               have HB2 : Hid (Below wo.heap.size wo w2) := HB1.out.trans (hb2.mono HB1.out.size)
               have HW2 := Lib.hid hW2
               have HO2 : Hid (RowOff w2 (fun k => k < wo.heap.size) A1 N (someL (a : Int) N)) := HO1.out.off (T := fun _ => False) (Off.of_below hb2) (fun k h => h.elim)
               have hmb : ¬ GP g p w1.heap.size := by have h1 := HRING0.out.lt; have h2 := HB1.out.size; unfold GP; omega
               have HMB := Lib.hid hmb
               have HM3 : Hid (w1.heap.size < w2.heap.size) := hlt2
               have C3 := Lib.hid (put_any w2 g p M f qs (some ⟨w1.heap.size, 0, none⟩) N (N + 3) (someL (a : Int) N) (min N (M - qs.length)) (HRING0.out.below HB2.out) (RowOff.of_whole hW2 (someL_length _ _) hmb) (by omega) (by omega) rfl)
               clear hrA hW2 hb2 hlt2 hmb)
            | (go_at_call 38
               (with_reducible refine C3.out.mono ?_)
               rintro e w3 ⟨rfl, hr3, ho3⟩
               have HR3 := Lib.hid hr3
               have HO3 := Lib.hid ho3
               have HA3 : Hid (RowOff w3 (fun k => k < wo.heap.size) A1 N (someL (a : Int) N)) := HO2.out.off ho3 (fun k h => by have := HRING0.out.lt; rcases h with h | h <;> omega)
               have HW3 : Hid (Whole .u8 w3 w1.heap.size 5 (someL (a : Int) N ++ [165, 165, 165])) := ho3.wholeI HW2.out HMB.out
               have hf3 := (HREF0.out.below HB2.out).off ho3 (fun h => by have := HGX.out; rcases h with h | h <;> omega) (fun k hk _ h => by have h1 := HGX.out; have h2 := HREF0.out.lt; rcases h with h | h <;> omega)
               have C4 := Lib.hid (refput9 w3 x base M qs A1 N c1 (someL (a : Int) N) (min N (M - qs.length)) hf3 HA3.out.row (by omega) HC1.out rfl)
               have HX3 : Hid (x < w3.heap.size) := Nat.lt_of_lt_of_le hf3.lt hf3.le
               clear hr3 ho3 hf3)
            | (go_at_call 39
               (with_reducible refine C4.out.mono ?_)
               rintro e w4 ⟨rfl, hr4, ho4⟩
               have HR4 := Lib.hid hr4
               have HO4 := Lib.hid ho4
               have hnx : ¬ x = w1.heap.size := by have h1 := HREF0.out.lt; have h2 := HREF0.out.le; have h3 := HB1.out.size; omega
               have HNX := Lib.hid hnx
               have HW4 : Hid (Whole .u8 w4 w1.heap.size 5 (someL (a : Int) N ++ [165, 165, 165])) := ho4.wholeI HW3.out (fun h => HNX.out h.symm)
               have hA4 : Row .u8 w4 w4.heap.size A1 N (someL (a : Int) N) := (HA3.out.off ho4 (fun k h => by have h1 := HREF0.out.lt; have h2 := HREF0.out.le; omega)).row
               have C5 := Lib.hid (stays_any A1 N c1 w1.heap.size (someL (a : Int) N) w4 hA4 HW4.out (by omega))
               clear hr4 ho4 hnx hA4)
            | (go_at_call 27
               (with_reducible refine C5.out.mono ?_)
               rintro e w5 ⟨rfl, d5, rfl⟩))
          have HS5 : Hid (Marked (w4.drewN d5) w1.heap.size (N + 3) (w4.drewN d5)) := Marked.start (by rw [List.length_append, someL_length]; rfl) (HW4.out.drewN d5)
          go_loopw [14] (fun i wr => ∃ j : Nat, j ≤ N ∧ i = .int .i64 (j : Int) ∧ Hid (Marked (w4.drewN d5) w1.heap.size (N + 3) wr)) (fun i _ => N - (intOf i).toNat)
          case atStart => exact ⟨0, by omega, rfl, HS5⟩
          case round =>
            obtain ⟨j, hj, rfl, HJ⟩ := hrel
            by_cases hjl : j < N
            · obtain ⟨vs, hvl, hvw, hvo⟩ := HJ.out
              have hvc : wr.cell? ⟨w1.heap.size, j, none⟩ = some (vs[j]'(by omega)) := by rw [hvw.cell j, List.getElem?_eq_getElem (by omega)]
              have hvf := hvw.frozen j
              have HM2 := Lib.hid (Marked.set HJ.out j)
              obtain ⟨vv, hvv⟩ : ∃ vv, vs[j]'(by omega) = vv := ⟨_, rfl⟩
              rw [hvv] at hvc
              have hji : (j : Int) < (N : Int) := by omega
              clear hvl hvw hvo hvv HJ
              go_wp2
              go_roundw
              case rel => exact ⟨j + 1, by omega, by go_num, HM2⟩
              case measure => simp [intOf]; omega
            · obtain rfl : N = j := by omega
              have hji : ¬ ((N : Nat) : Int) < (N : Int) := by omega
              have hjd : decide (N < N) = false := by simp
              obtain ⟨_, _, _, hvo⟩ := HJ.out
              obtain ⟨w9, hw9⟩ : ∃ w9, w9 = wr := ⟨_, rfl⟩
              subst hw9
              have hring9 := ((HR3.out.off HO4.out (fun h => by have := HGX.out; omega) (fun h => by have := HGX.out; omega)).drewN d5).off hvo (fun h => HMB.out (.inl h.symm)) (fun h => HMB.out (.inr h.symm))
              have href9 : RefAt w9 x w3.heap.size M _ := RefAt.off (w := w4.drewN d5) (S := fun k => k = w1.heap.size) ⟨HR4.out.lt, HR4.out.le, HR4.out.room, HR4.out.most, HR4.out.row⟩ hvo (fun h => HNX.out h) (fun k hk _ h => by have h1 := HM3.out; have h2 := HO3.out.size; omega)
              have hbel9 : Below w.heap.size w w9 := by
                have hb2 := HBEL0.out.trans (HB2.out.mono HBEL0.out.size)
                have hb3 := below_gp hb2 hb2.size HO3.out HGX.out.1.1 HGX.out.1.2
                have hb4 := hb3.trans (HO4.out.below hb3.size (fun k hk h => by have := HGX.out; omega))
                exact (below_drewN hb4 d5).trans (hvo.below hb4.size (fun k hk h => by have h1 := HBEL0.out.size; have h2 := HB1.out.size; omega))
              obtain ⟨f9, qs9, base9, hring9, href9, hbel9⟩ : PlayInv w g p x M w9 := ⟨_, _, _, hring9, href9, hbel9⟩
              clear hvo HJ
              obtain ⟨A9, c9, hg9, ho9⟩ := href9.row
              have c90 := hg9.cell 0
              have c91 := hg9.cell 1
              simp only [List.getElem?_cons_succ, List.getElem?_cons_zero] at c90 c91
              have hx9 := hg9.lt
              have hq9 := hring9.len
              have hm9 := hring9.most
              have CLEN := Lib.hid (fun W (hW : Below w9.heap.size w9 W) => len_any W g p M f9 qs9 (hring9.below hW))
              have CROOM := Lib.hid (fun W (hW : Below w9.heap.size w9 W) => room_any W g p M f9 qs9 (hring9.below hW))
              have CLOOK := Lib.hid (fun W (hW : Below w9.heap.size w9 W) => look_any W g p M f9 qs9 (qs9.length : Int) qs9.length (hring9.below hW) (.inr (.inl ⟨by omega, rfl, Nat.le_refl _⟩)))
              have hrow9 : Row .u8 w9 w9.heap.size A9 qs9.length qs9 := (own_row ho9).ints
              have KS : Hid (∀ W, Below w9.heap.size w9 W → W.cell? ⟨x, 0, none⟩ = some (.int .i64 (M : Int)) ∧ W.cell? ⟨x, 1, none⟩ = some (.slice A9 qs9.length c9) ∧ (convert 33 9 (.slice A9 qs9.length c9)).run Try.prog W = .ok (.string (strOfNums qs9)) W ∧ Below w9.heap.size w9 W) :=
                fun W hW => ⟨(hW.cell (p := ⟨x, 0, none⟩) hx9).trans c90, (hW.cell (p := ⟨x, 1, none⟩) hx9).trans c91, conv_row _ _ _ _ _ ((hrow9.below hW).more hW.size), hW⟩
              have HRING := Lib.hid hring9
              have HREF := Lib.hid href9
              have HBEL := Lib.hid hbel9
              obtain ⟨q9, hqq⟩ : ∃ q9, qs9.length = q9 := ⟨_, rfl⟩
              have HQQ := Lib.hid hqq
              have CLK : Hid (∀ W, Below w9.heap.size w9 W → Calls Try.prog 40 #[.pointer (some ⟨g, 0, none⟩), .int .i64 (q9 : Int)] W fun e w' => ∃ b, e = .returned (.slice (some ⟨b, 0, none⟩) q9 q9) ∧ (convert 33 9 (.slice (some ⟨b, 0, none⟩) q9 q9)).run Try.prog w' = .ok (.string (strOfNums qs9)) w' ∧ Below w9.heap.size w9 w') := by
                intro W hW
                have h := CLOOK.out W hW
                rw [hqq] at h
                refine h.mono ?_
                rintro e w' ⟨b, rfl, hb, hw, hbb⟩
                have hr := hw.row
                rw [show (qs9.take q9).length = q9 by rw [List.length_take]; omega, List.take_of_length_le (by omega)] at hr
                exact ⟨b, rfl, conv_row _ _ _ _ _ hr, hW.trans (hbb.mono hW.size)⟩
              rw [hqq] at CLEN CROOM KS c91 hq9
              have hwr9 : IntKind.i64.wrap ((M : Int) - (q9 : Int)) = (M : Int) - (q9 : Int) := IntWalk.i64_in _ (by omega)
              obtain ⟨S9, hS9⟩ : ∃ S9, strOfNums qs9 = S9 := ⟨_, rfl⟩
              rw [hS9] at KS CLK
              clear hg9 ho9 hring9 href9 hbel9 hrow9 CLOOK hqq hS9 c90 c91
              go_wp2
              go_region_held (fun W => W.cell? ⟨x, 0, none⟩ = some (.int .i64 (M : Int)) ∧ W.cell? ⟨x, 1, none⟩ = some (.slice A9 q9 c9) ∧ (convert 33 9 (.slice A9 q9 c9)).run Try.prog W = .ok (.string S9) W ∧ Below w9.heap.size w9 W)
                (first | exact KS.out _ (Below.refl _ _).drew | exact KS.out _ (below_drewN (Below.refl _ _) _) | exact KS.out _ hb93 | exact KS.out _ (below_drewN (Below.refl _ _).drew _))
                (first
                  | (go_at_call 44
                     refine (CLEN.out _ ?_).mono ?_
                     · first | assumption | exact (Below.refl _ _).drew | exact below_drewN (Below.refl _ _) _
                     rintro e w91 ⟨rfl, rfl⟩)
                  | (go_at_call 45
                     refine (CROOM.out _ ?_).mono ?_
                     · first | assumption | exact (Below.refl _ _).drew | exact below_drewN (Below.refl _ _) _
                     rintro e w92 ⟨rfl, d92, rfl⟩)
                  | (go_at_call 40
                     refine (CLK.out _ ?_).mono ?_
                     · first | assumption | exact (Below.refl _ _).drew | exact below_drewN (Below.refl _ _) _
                     rintro e w93 ⟨b93, rfl, hcv93, hb93⟩))
              all_goals
                go_wp2
                go_roundw
                case rel => exact ⟨k + 1, a + N, by omega, by omega, by go_num, by go_num, PlayInv.mk HRING.out HREF.out HBEL.out (by first | exact hb93 | assumption)⟩
                case measure => simp [intOf]; omega
        · clear hN
          have CS := Lib.hid (some_any (a : Int) ((D : Int) - 2) N wo (by omega) (by omega) HN.out (by omega))
          go_wp2_with (first
            | (go_at_call 36; (with_reducible refine (CD.out _).mono ?_); rintro e w' ⟨rfl, rfl⟩)
            | (go_at_call 22; (with_reducible refine (CE.out _).mono ?_); rintro e w' ⟨rfl, rfl⟩)
            | (go_at_call 37
               (with_reducible refine CS.out.mono ?_)
               rintro e w1 ⟨A1, c1, rfl, ho1, hb1⟩
               have hr1 : Row .u8 w1 w1.heap.size A1 N (someL (a : Int) N) := (own_row ho1).ints
               have C2 := Lib.hid (lent_all A1 N c1 (someL (a : Int) N) w1 hr1 (by omega))
               have HO1 : Hid (RowOff w1 (fun k => k < wo.heap.size) A1 N (someL (a : Int) N)) := own_lo ho1
               have HC1 : Hid (N ≤ c1) := own_capI ho1
               have HB1 := Lib.hid hb1
               clear ho1 hb1 hr1)
            | (go_at_call 23
               (with_reducible refine C2.out.mono ?_)
               rintro e w2 ⟨rfl, hrA, _, hW2, hb2, hlt2⟩
               have HB2 : Hid (Below wo.heap.size wo w2) := HB1.out.trans (hb2.mono HB1.out.size)
               have HW2 := Lib.hid hW2
               have HO2 : Hid (RowOff w2 (fun k => k < wo.heap.size) A1 N (someL (a : Int) N)) := HO1.out.off (T := fun _ => False) (Off.of_below hb2) (fun k h => h.elim)
               have hmb : ¬ GP g p w1.heap.size := by have h1 := HRING0.out.lt; have h2 := HB1.out.size; unfold GP; omega
               have HMB := Lib.hid hmb
               have HM3 : Hid (w1.heap.size < w2.heap.size) := hlt2
               have C3 := Lib.hid (put_any w2 g p M f qs (some ⟨w1.heap.size, 0, none⟩) N (N + 3) (someL (a : Int) N) (min N (M - qs.length)) (HRING0.out.below HB2.out) (RowOff.of_whole hW2 (someL_length _ _) hmb) (by omega) (by omega) rfl)
               clear hrA hW2 hb2 hlt2 hmb)
            | (go_at_call 38
               (with_reducible refine C3.out.mono ?_)
               rintro e w3 ⟨rfl, hr3, ho3⟩
               have HR3 := Lib.hid hr3
               have HO3 := Lib.hid ho3
               have HA3 : Hid (RowOff w3 (fun k => k < wo.heap.size) A1 N (someL (a : Int) N)) := HO2.out.off ho3 (fun k h => by have := HRING0.out.lt; rcases h with h | h <;> omega)
               have HW3 : Hid (Whole .u8 w3 w1.heap.size 5 (someL (a : Int) N ++ [165, 165, 165])) := ho3.wholeI HW2.out HMB.out
               have hf3 := (HREF0.out.below HB2.out).off ho3 (fun h => by have := HGX.out; rcases h with h | h <;> omega) (fun k hk _ h => by have h1 := HGX.out; have h2 := HREF0.out.lt; rcases h with h | h <;> omega)
               have C4 := Lib.hid (refput9 w3 x base M qs A1 N c1 (someL (a : Int) N) (min N (M - qs.length)) hf3 HA3.out.row (by omega) HC1.out rfl)
               have HX3 : Hid (x < w3.heap.size) := Nat.lt_of_lt_of_le hf3.lt hf3.le
               clear hr3 ho3 hf3)
            | (go_at_call 39
               (with_reducible refine C4.out.mono ?_)
               rintro e w4 ⟨rfl, hr4, ho4⟩
               have HR4 := Lib.hid hr4
               have HO4 := Lib.hid ho4
               have hnx : ¬ x = w1.heap.size := by have h1 := HREF0.out.lt; have h2 := HREF0.out.le; have h3 := HB1.out.size; omega
               have HNX := Lib.hid hnx
               have HW4 : Hid (Whole .u8 w4 w1.heap.size 5 (someL (a : Int) N ++ [165, 165, 165])) := ho4.wholeI HW3.out (fun h => HNX.out h.symm)
               have hA4 : Row .u8 w4 w4.heap.size A1 N (someL (a : Int) N) := (HA3.out.off ho4 (fun k h => by have h1 := HREF0.out.lt; have h2 := HREF0.out.le; omega)).row
               have C5 := Lib.hid (stays_any A1 N c1 w1.heap.size (someL (a : Int) N) w4 hA4 HW4.out (by omega))
               clear hr4 ho4 hnx hA4)
            | (go_at_call 27
               (with_reducible refine C5.out.mono ?_)
               rintro e w5 ⟨rfl, d5, rfl⟩))
          have HS5 : Hid (Marked (w4.drewN d5) w1.heap.size (N + 3) (w4.drewN d5)) := Marked.start (by rw [List.length_append, someL_length]; rfl) (HW4.out.drewN d5)
          go_loopw [14] (fun i wr => ∃ j : Nat, j ≤ N ∧ i = .int .i64 (j : Int) ∧ Hid (Marked (w4.drewN d5) w1.heap.size (N + 3) wr)) (fun i _ => N - (intOf i).toNat)
          case atStart => exact ⟨0, by omega, rfl, HS5⟩
          case round =>
            obtain ⟨j, hj, rfl, HJ⟩ := hrel
            by_cases hjl : j < N
            · obtain ⟨vs, hvl, hvw, hvo⟩ := HJ.out
              have hvc : wr.cell? ⟨w1.heap.size, j, none⟩ = some (vs[j]'(by omega)) := by rw [hvw.cell j, List.getElem?_eq_getElem (by omega)]
              have hvf := hvw.frozen j
              have HM2 := Lib.hid (Marked.set HJ.out j)
              obtain ⟨vv, hvv⟩ : ∃ vv, vs[j]'(by omega) = vv := ⟨_, rfl⟩
              rw [hvv] at hvc
              have hji : (j : Int) < (N : Int) := by omega
              clear hvl hvw hvo hvv HJ
              go_wp2
              go_roundw
              case rel => exact ⟨j + 1, by omega, by go_num, HM2⟩
              case measure => simp [intOf]; omega
            · obtain rfl : N = j := by omega
              have hji : ¬ ((N : Nat) : Int) < (N : Int) := by omega
              have hjd : decide (N < N) = false := by simp
              obtain ⟨_, _, _, hvo⟩ := HJ.out
              obtain ⟨w9, hw9⟩ : ∃ w9, w9 = wr := ⟨_, rfl⟩
              subst hw9
              have hring9 := ((HR3.out.off HO4.out (fun h => by have := HGX.out; omega) (fun h => by have := HGX.out; omega)).drewN d5).off hvo (fun h => HMB.out (.inl h.symm)) (fun h => HMB.out (.inr h.symm))
              have href9 : RefAt w9 x w3.heap.size M _ := RefAt.off (w := w4.drewN d5) (S := fun k => k = w1.heap.size) ⟨HR4.out.lt, HR4.out.le, HR4.out.room, HR4.out.most, HR4.out.row⟩ hvo (fun h => HNX.out h) (fun k hk _ h => by have h1 := HM3.out; have h2 := HO3.out.size; omega)
              have hbel9 : Below w.heap.size w w9 := by
                have hb2 := HBEL0.out.trans (HB2.out.mono HBEL0.out.size)
                have hb3 := below_gp hb2 hb2.size HO3.out HGX.out.1.1 HGX.out.1.2
                have hb4 := hb3.trans (HO4.out.below hb3.size (fun k hk h => by have := HGX.out; omega))
                exact (below_drewN hb4 d5).trans (hvo.below hb4.size (fun k hk h => by have h1 := HBEL0.out.size; have h2 := HB1.out.size; omega))
              obtain ⟨f9, qs9, base9, hring9, href9, hbel9⟩ : PlayInv w g p x M w9 := ⟨_, _, _, hring9, href9, hbel9⟩
              clear hvo HJ
              obtain ⟨A9, c9, hg9, ho9⟩ := href9.row
              have c90 := hg9.cell 0
              have c91 := hg9.cell 1
              simp only [List.getElem?_cons_succ, List.getElem?_cons_zero] at c90 c91
              have hx9 := hg9.lt
              have hq9 := hring9.len
              have hm9 := hring9.most
              have CLEN := Lib.hid (fun W (hW : Below w9.heap.size w9 W) => len_any W g p M f9 qs9 (hring9.below hW))
              have CROOM := Lib.hid (fun W (hW : Below w9.heap.size w9 W) => room_any W g p M f9 qs9 (hring9.below hW))
              have CLOOK := Lib.hid (fun W (hW : Below w9.heap.size w9 W) => look_any W g p M f9 qs9 (qs9.length : Int) qs9.length (hring9.below hW) (.inr (.inl ⟨by omega, rfl, Nat.le_refl _⟩)))
              have hrow9 : Row .u8 w9 w9.heap.size A9 qs9.length qs9 := (own_row ho9).ints
              have KS : Hid (∀ W, Below w9.heap.size w9 W → W.cell? ⟨x, 0, none⟩ = some (.int .i64 (M : Int)) ∧ W.cell? ⟨x, 1, none⟩ = some (.slice A9 qs9.length c9) ∧ (convert 33 9 (.slice A9 qs9.length c9)).run Try.prog W = .ok (.string (strOfNums qs9)) W ∧ Below w9.heap.size w9 W) :=
                fun W hW => ⟨(hW.cell (p := ⟨x, 0, none⟩) hx9).trans c90, (hW.cell (p := ⟨x, 1, none⟩) hx9).trans c91, conv_row _ _ _ _ _ ((hrow9.below hW).more hW.size), hW⟩
              have HRING := Lib.hid hring9
              have HREF := Lib.hid href9
              have HBEL := Lib.hid hbel9
              obtain ⟨q9, hqq⟩ : ∃ q9, qs9.length = q9 := ⟨_, rfl⟩
              have HQQ := Lib.hid hqq
              have CLK : Hid (∀ W, Below w9.heap.size w9 W → Calls Try.prog 40 #[.pointer (some ⟨g, 0, none⟩), .int .i64 (q9 : Int)] W fun e w' => ∃ b, e = .returned (.slice (some ⟨b, 0, none⟩) q9 q9) ∧ (convert 33 9 (.slice (some ⟨b, 0, none⟩) q9 q9)).run Try.prog w' = .ok (.string (strOfNums qs9)) w' ∧ Below w9.heap.size w9 w') := by
                intro W hW
                have h := CLOOK.out W hW
                rw [hqq] at h
                refine h.mono ?_
                rintro e w' ⟨b, rfl, hb, hw, hbb⟩
                have hr := hw.row
                rw [show (qs9.take q9).length = q9 by rw [List.length_take]; omega, List.take_of_length_le (by omega)] at hr
                exact ⟨b, rfl, conv_row _ _ _ _ _ hr, hW.trans (hbb.mono hW.size)⟩
              rw [hqq] at CLEN CROOM KS c91 hq9
              have hwr9 : IntKind.i64.wrap ((M : Int) - (q9 : Int)) = (M : Int) - (q9 : Int) := IntWalk.i64_in _ (by omega)
              obtain ⟨S9, hS9⟩ : ∃ S9, strOfNums qs9 = S9 := ⟨_, rfl⟩
              rw [hS9] at KS CLK
              clear hg9 ho9 hring9 href9 hbel9 hrow9 CLOOK hqq hS9 c90 c91
              go_wp2
              go_region_held (fun W => W.cell? ⟨x, 0, none⟩ = some (.int .i64 (M : Int)) ∧ W.cell? ⟨x, 1, none⟩ = some (.slice A9 q9 c9) ∧ (convert 33 9 (.slice A9 q9 c9)).run Try.prog W = .ok (.string S9) W ∧ Below w9.heap.size w9 W)
                (first | exact KS.out _ (Below.refl _ _).drew | exact KS.out _ (below_drewN (Below.refl _ _) _) | exact KS.out _ hb93 | exact KS.out _ (below_drewN (Below.refl _ _).drew _))
                (first
                  | (go_at_call 44
                     refine (CLEN.out _ ?_).mono ?_
                     · first | assumption | exact (Below.refl _ _).drew | exact below_drewN (Below.refl _ _) _
                     rintro e w91 ⟨rfl, rfl⟩)
                  | (go_at_call 45
                     refine (CROOM.out _ ?_).mono ?_
                     · first | assumption | exact (Below.refl _ _).drew | exact below_drewN (Below.refl _ _) _
                     rintro e w92 ⟨rfl, d92, rfl⟩)
                  | (go_at_call 40
                     refine (CLK.out _ ?_).mono ?_
                     · first | assumption | exact (Below.refl _ _).drew | exact below_drewN (Below.refl _ _) _
                     rintro e w93 ⟨b93, rfl, hcv93, hb93⟩))
              all_goals
                go_wp2
                go_roundw
                case rel => exact ⟨k + 1, a + N, by omega, by omega, by go_num, by go_num, PlayInv.mk HRING.out HREF.out HBEL.out (by first | exact hb93 | assumption)⟩
                case measure => simp [intOf]; omega
        · clear hN
          obtain ⟨mL, hcnt⟩ := cnt_some ((D : Int) - 2) qs.length
          have C1 := Lib.hid (look_any wo g p M f qs ((D : Int) - 2) mL HRING0.out hcnt)
          have HCN := Lib.hid hcnt
          have hmL6 : mL ≤ 65536 := by have h1 := hcnt.le; have h2 := HRING0.out.len; have h3 := HRING0.out.most; omega
          clear hcnt
          go_wp2_with (first
            | (go_at_call 36; (with_reducible refine (CD.out _).mono ?_); rintro e w' ⟨rfl, rfl⟩)
            | (go_at_call 22; (with_reducible refine (CE.out _).mono ?_); rintro e w' ⟨rfl, rfl⟩)
            | (go_at_call 40
               (with_reducible refine C1.out.mono ?_)
               rintro e w1 ⟨b1, rfl, hb1, hW1, hB1⟩
               have HB1b := Lib.hid hb1
               have HW1 := Lib.hid hW1
               have HB1 := Lib.hid hB1
               clear hb1 hW1 hB1))
          obtain ⟨S2, hS2⟩ : ∃ S2, strOfNums (qs.take mL) = S2 := ⟨_, rfl⟩
          have hlL : (qs.take mL).length = mL := by rw [List.length_take]; exact Nat.min_eq_left HCN.out.le
          have KS1 : Hid (∀ W, Below w1.heap.size w1 W → (convert 33 9 (.slice (some ⟨b1, 0, none⟩) mL mL)).run Try.prog W = .ok (.string S2) W ∧ Below w1.heap.size w1 W) := by
            intro W hW
            have hr := HW1.out.row
            rw [hlL] at hr
            rw [← hS2]
            exact ⟨conv_row _ _ _ _ _ ((hr.below hW).more hW.size), hW⟩
          have CRL : Hid (Calls Try.prog 41 #[.pointer (some ⟨x, 0, none⟩), .int .i64 ((D : Int) - 2)] w1.drew fun e w' => ∃ A c, e = .returned (.slice A mL c) ∧ (convert 33 9 (.slice A mL c)).run Try.prog w' = .ok (.string S2) w' ∧ Below w1.heap.size w1 w') := by
            have hf : RefAt w1.drew x base M qs := HREF0.out.below (HB1.out.drew)
            refine (reflook_any w1.drew x base M qs ((D : Int) - 2) mL hf HCN.out).mono ?_
            rintro e w' ⟨A, c, rfl, ho, hb⟩
            rw [← hS2]
            exact ⟨A, c, rfl, conv_row _ _ _ _ _ (own_row ho).ints, ⟨hb.os, hb.tape, hb.output, hb.size, hb.block⟩⟩
          have HLL := Lib.hid hlL
          clear hS2 hlL
          go_region_held (fun W => (convert 33 9 (.slice (some ⟨b1, 0, none⟩) mL mL)).run Try.prog W = .ok (.string S2) W ∧ Below w1.heap.size w1 W)
            (first | exact KS1.out _ (Below.refl _ _).drew | exact KS1.out _ hb2)
            (first
              | (go_at_call 41
                 (with_reducible refine CRL.out.mono ?_)
                 rintro e w2 ⟨A2, c2, rfl, hcv2, hb2⟩))
          all_goals
            have HB2 := Lib.hid hb2
            clear hb2
            go_wp2
            have HS5 : Hid (Marked w2 b1 mL w2) := Marked.start HLL.out (HW1.out.below HB2.out HW1.out.lt)
            go_loopw [16] (fun i wr => ∃ j : Nat, j ≤ mL ∧ i = .int .i64 (j : Int) ∧ Hid (Marked w2 b1 mL wr)) (fun i _ => mL - (intOf i).toNat)
            case atStart => exact ⟨0, by omega, rfl, HS5⟩
            case round =>
              obtain ⟨j, hj, rfl, HJ⟩ := hrel
              by_cases hjl : j < mL
              · obtain ⟨vs, hvl, hvw, hvo⟩ := HJ.out
                have hvc : wr.cell? ⟨b1, j, none⟩ = some (vs[j]'(by omega)) := by rw [hvw.cell j, List.getElem?_eq_getElem (by omega)]
                have hvf := hvw.frozen j
                have HM2 := Lib.hid (Marked.set HJ.out j)
                obtain ⟨vv, hvv⟩ : ∃ vv, vs[j]'(by omega) = vv := ⟨_, rfl⟩
                rw [hvv] at hvc
                have hji : (j : Int) < (mL : Int) := by omega
                clear hvl hvw hvo hvv HJ
                go_wp2
                go_roundw
                case rel => exact ⟨j + 1, by omega, by go_num, HM2⟩
                case measure => simp [intOf]; omega
              · obtain rfl : mL = j := by omega
                have hji : ¬ ((mL : Nat) : Int) < (mL : Int) := by omega
                have hjd : decide (mL < mL) = false := by simp
                obtain ⟨_, _, _, hvo⟩ := HJ.out
                obtain ⟨w9, hw9⟩ : ∃ w9, w9 = wr := ⟨_, rfl⟩
                subst hw9
                have hbw : Below wo.heap.size wo w9 := (HB1.out.trans (HB2.out.mono HB1.out.size)).trans (hvo.below (Nat.le_trans HB1.out.size HB2.out.size) (fun k hk h => by have := HB1b.out; omega))
                obtain ⟨f9, qs9, base9, hring9, href9, hbel9⟩ : PlayInv w g p x M w9 := ⟨_, _, _, HRING0.out.below hbw, HREF0.out.below hbw, HBEL0.out.trans (hbw.mono HBEL0.out.size)⟩
                clear hvo HJ hbw
                obtain ⟨A9, c9, hg9, ho9⟩ := href9.row
                have c90 := hg9.cell 0
                have c91 := hg9.cell 1
                simp only [List.getElem?_cons_succ, List.getElem?_cons_zero] at c90 c91
                have hx9 := hg9.lt
                have hq9 := hring9.len
                have hm9 := hring9.most
                have CLEN := Lib.hid (fun W (hW : Below w9.heap.size w9 W) => len_any W g p M f9 qs9 (hring9.below hW))
                have CROOM := Lib.hid (fun W (hW : Below w9.heap.size w9 W) => room_any W g p M f9 qs9 (hring9.below hW))
                have CLOOK := Lib.hid (fun W (hW : Below w9.heap.size w9 W) => look_any W g p M f9 qs9 (qs9.length : Int) qs9.length (hring9.below hW) (.inr (.inl ⟨by omega, rfl, Nat.le_refl _⟩)))
                have hrow9 : Row .u8 w9 w9.heap.size A9 qs9.length qs9 := (own_row ho9).ints
                have KS : Hid (∀ W, Below w9.heap.size w9 W → W.cell? ⟨x, 0, none⟩ = some (.int .i64 (M : Int)) ∧ W.cell? ⟨x, 1, none⟩ = some (.slice A9 qs9.length c9) ∧ (convert 33 9 (.slice A9 qs9.length c9)).run Try.prog W = .ok (.string (strOfNums qs9)) W ∧ Below w9.heap.size w9 W) :=
                  fun W hW => ⟨(hW.cell (p := ⟨x, 0, none⟩) hx9).trans c90, (hW.cell (p := ⟨x, 1, none⟩) hx9).trans c91, conv_row _ _ _ _ _ ((hrow9.below hW).more hW.size), hW⟩
                have HRING := Lib.hid hring9
                have HREF := Lib.hid href9
                have HBEL := Lib.hid hbel9
                obtain ⟨q9, hqq⟩ : ∃ q9, qs9.length = q9 := ⟨_, rfl⟩
                have HQQ := Lib.hid hqq
                have CLK : Hid (∀ W, Below w9.heap.size w9 W → Calls Try.prog 40 #[.pointer (some ⟨g, 0, none⟩), .int .i64 (q9 : Int)] W fun e w' => ∃ b, e = .returned (.slice (some ⟨b, 0, none⟩) q9 q9) ∧ (convert 33 9 (.slice (some ⟨b, 0, none⟩) q9 q9)).run Try.prog w' = .ok (.string (strOfNums qs9)) w' ∧ Below w9.heap.size w9 w') := by
                  intro W hW
                  have h := CLOOK.out W hW
                  rw [hqq] at h
                  refine h.mono ?_
                  rintro e w' ⟨b, rfl, hb, hw, hbb⟩
                  have hr := hw.row
                  rw [show (qs9.take q9).length = q9 by rw [List.length_take]; omega, List.take_of_length_le (by omega)] at hr
                  exact ⟨b, rfl, conv_row _ _ _ _ _ hr, hW.trans (hbb.mono hW.size)⟩
                rw [hqq] at CLEN CROOM KS c91 hq9
                have hwr9 : IntKind.i64.wrap ((M : Int) - (q9 : Int)) = (M : Int) - (q9 : Int) := IntWalk.i64_in _ (by omega)
                obtain ⟨S9, hS9⟩ : ∃ S9, strOfNums qs9 = S9 := ⟨_, rfl⟩
                rw [hS9] at KS CLK
                clear hg9 ho9 hring9 href9 hbel9 hrow9 CLOOK hqq hS9 c90 c91
                go_wp2
                go_region_held (fun W => W.cell? ⟨x, 0, none⟩ = some (.int .i64 (M : Int)) ∧ W.cell? ⟨x, 1, none⟩ = some (.slice A9 q9 c9) ∧ (convert 33 9 (.slice A9 q9 c9)).run Try.prog W = .ok (.string S9) W ∧ Below w9.heap.size w9 W)
                  (first | exact KS.out _ (Below.refl _ _).drew | exact KS.out _ (below_drewN (Below.refl _ _) _) | exact KS.out _ hb93 | exact KS.out _ (below_drewN (Below.refl _ _).drew _))
                  (first
                    | (go_at_call 44
                       refine (CLEN.out _ ?_).mono ?_
                       · first | assumption | exact (Below.refl _ _).drew | exact below_drewN (Below.refl _ _) _
                       rintro e w91 ⟨rfl, rfl⟩)
                    | (go_at_call 45
                       refine (CROOM.out _ ?_).mono ?_
                       · first | assumption | exact (Below.refl _ _).drew | exact below_drewN (Below.refl _ _) _
                       rintro e w92 ⟨rfl, d92, rfl⟩)
                    | (go_at_call 40
                       refine (CLK.out _ ?_).mono ?_
                       · first | assumption | exact (Below.refl _ _).drew | exact below_drewN (Below.refl _ _) _
                       rintro e w93 ⟨b93, rfl, hcv93, hb93⟩))
                all_goals
                  go_wp2
                  go_roundw
                  case rel => exact ⟨k + 1, a, by omega, by omega, by go_num, by go_num, PlayInv.mk HRING.out HREF.out HBEL.out (by first | exact hb93 | assumption)⟩
                  case measure => simp [intOf]; omega
        · clear hN
          obtain ⟨mL, hcnt⟩ := cnt_some ((D : Int) - 2) qs.length
          have C1 := Lib.hid (take_any wo g p M f qs ((D : Int) - 2) mL HRING0.out hcnt)
          have HCN := Lib.hid hcnt
          have hmL6 : mL ≤ 65536 := by have h1 := hcnt.le; have h2 := HRING0.out.len; have h3 := HRING0.out.most; omega
          clear hcnt
          go_wp2_with (first
            | (go_at_call 36; (with_reducible refine (CD.out _).mono ?_); rintro e w' ⟨rfl, rfl⟩)
            | (go_at_call 22; (with_reducible refine (CE.out _).mono ?_); rintro e w' ⟨rfl, rfl⟩)
            | (go_at_call 42
               (with_reducible refine C1.out.mono ?_)
               rintro e w1 ⟨b1, rfl, hb1, hW1, hR1, hO1⟩
               have HB1b := Lib.hid hb1
               have HW1 := Lib.hid hW1
               have HR1 := Lib.hid hR1
               have HO1 := Lib.hid hO1
               clear hb1 hW1 hR1 hO1))
          obtain ⟨S2, hS2⟩ : ∃ S2, strOfNums (qs.take mL) = S2 := ⟨_, rfl⟩
          have hlL : (qs.take mL).length = mL := by rw [List.length_take]; exact Nat.min_eq_left HCN.out.le
          have HBX : Hid (¬ b1 = x) := by have h1 := HREF0.out.lt; have h2 := HREF0.out.le; have h3 := HB1b.out; show ¬ _; omega
          have KS1 : Hid (∀ W, Off (fun k => k = x) w1 W → (convert 33 9 (.slice (some ⟨b1, 0, none⟩) mL mL)).run Try.prog W = .ok (.string S2) W ∧ Off (fun k => k = x) w1 W) := by
            intro W hW
            have hr := (hW.wholeI HW1.out HBX.out).row
            rw [hlL] at hr
            rw [← hS2]
            exact ⟨conv_row _ _ _ _ _ hr, hW⟩
          have CRL : Hid (Calls Try.prog 43 #[.pointer (some ⟨x, 0, none⟩), .int .i64 ((D : Int) - 2)] w1.drew fun e w' => ∃ A c, e = .returned (.slice A mL c) ∧ (convert 33 9 (.slice A mL c)).run Try.prog w' = .ok (.string S2) w' ∧ RefAt w' x w1.heap.size M (qs.drop mL) ∧ Off (fun k => k = x) w1 w') := by
            have hf : RefAt w1 x base M qs := HREF0.out.off HO1.out (fun h => by have := HGX.out; rcases h with h | h <;> omega) (fun k hk _ h => by have h1 := HGX.out; have h2 := HREF0.out.lt; rcases h with h | h <;> omega)
            refine (reftake_any w1.drew x base M qs ((D : Int) - 2) mL (hf.below (Below.refl _ _).drew) HCN.out).mono ?_
            rintro e w' ⟨A, c, rfl, ho, hr, hof⟩
            rw [← hS2]
            exact ⟨A, c, rfl, conv_row _ _ _ _ _ (own_row ho).ints, hr, ⟨hof.os, hof.tape, hof.output, hof.size, hof.block⟩⟩
          have HLL := Lib.hid hlL
          clear hS2 hlL
          go_region_held (fun W => (convert 33 9 (.slice (some ⟨b1, 0, none⟩) mL mL)).run Try.prog W = .ok (.string S2) W ∧ Off (fun k => k = x) w1 W)
            (first | exact KS1.out _ (Off.refl _ _).drew | exact KS1.out _ ho2)
            (first
              | (go_at_call 43
                 (with_reducible refine CRL.out.mono ?_)
                 rintro e w2 ⟨A2, c2, rfl, hcv2, hr2, ho2⟩))
          all_goals
            have HR2b := Lib.hid hr2
            have HO2b := Lib.hid ho2
            clear hr2 ho2
            go_wp2
            have HS5 : Hid (Marked w2 b1 mL w2) := Marked.start HLL.out (HO2b.out.wholeI HW1.out HBX.out)
            go_loopw [18] (fun i wr => ∃ j : Nat, j ≤ mL ∧ i = .int .i64 (j : Int) ∧ Hid (Marked w2 b1 mL wr)) (fun i _ => mL - (intOf i).toNat)
            case atStart => exact ⟨0, by omega, rfl, HS5⟩
            case round =>
              obtain ⟨j, hj, rfl, HJ⟩ := hrel
              by_cases hjl : j < mL
              · obtain ⟨vs, hvl, hvw, hvo⟩ := HJ.out
                have hvc : wr.cell? ⟨b1, j, none⟩ = some (vs[j]'(by omega)) := by rw [hvw.cell j, List.getElem?_eq_getElem (by omega)]
                have hvf := hvw.frozen j
                have HM2 := Lib.hid (Marked.set HJ.out j)
                obtain ⟨vv, hvv⟩ : ∃ vv, vs[j]'(by omega) = vv := ⟨_, rfl⟩
                rw [hvv] at hvc
                have hji : (j : Int) < (mL : Int) := by omega
                clear hvl hvw hvo hvv HJ
                go_wp2
                go_roundw
                case rel => exact ⟨j + 1, by omega, by go_num, HM2⟩
                case measure => simp [intOf]; omega
              · obtain rfl : mL = j := by omega
                have hji : ¬ ((mL : Nat) : Int) < (mL : Int) := by omega
                have hjd : decide (mL < mL) = false := by simp
                obtain ⟨_, _, _, hvo⟩ := HJ.out
                obtain ⟨w9, hw9⟩ : ∃ w9, w9 = wr := ⟨_, rfl⟩
                subst hw9
                have hring9 := (HR1.out.off HO2b.out (fun h => by have := HGX.out; omega) (fun h => by have := HGX.out; omega)).off hvo (fun h => by have h1 := HRING0.out.lt; have h2 := HB1b.out; omega) (fun h => by have h1 := HRING0.out.lt; have h2 := HB1b.out; omega)
                have href9 := HR2b.out.off hvo (fun h => HBX.out h.symm) (fun k hk _ h => by have h1 := HW1.out.lt; omega)
                have hbel9 : Below w.heap.size w w9 := by
                  have hb1 := below_gp HBEL0.out HBEL0.out.size HO1.out HGX.out.1.1 HGX.out.1.2
                  have hb2 := hb1.trans (HO2b.out.below hb1.size (fun k hk h => by have := HGX.out; omega))
                  exact hb2.trans (hvo.below hb2.size (fun k hk h => by have h1 := HBEL0.out.size; have h2 := HB1b.out; omega))
                obtain ⟨f9, qs9, base9, hring9, href9, hbel9⟩ : PlayInv w g p x M w9 := ⟨_, _, _, hring9, href9, hbel9⟩
                clear hvo HJ
                obtain ⟨A9, c9, hg9, ho9⟩ := href9.row
                have c90 := hg9.cell 0
                have c91 := hg9.cell 1
                simp only [List.getElem?_cons_succ, List.getElem?_cons_zero] at c90 c91
                have hx9 := hg9.lt
                have hq9 := hring9.len
                have hm9 := hring9.most
                have CLEN := Lib.hid (fun W (hW : Below w9.heap.size w9 W) => len_any W g p M f9 qs9 (hring9.below hW))
                have CROOM := Lib.hid (fun W (hW : Below w9.heap.size w9 W) => room_any W g p M f9 qs9 (hring9.below hW))
                have CLOOK := Lib.hid (fun W (hW : Below w9.heap.size w9 W) => look_any W g p M f9 qs9 (qs9.length : Int) qs9.length (hring9.below hW) (.inr (.inl ⟨by omega, rfl, Nat.le_refl _⟩)))
                have hrow9 : Row .u8 w9 w9.heap.size A9 qs9.length qs9 := (own_row ho9).ints
                have KS : Hid (∀ W, Below w9.heap.size w9 W → W.cell? ⟨x, 0, none⟩ = some (.int .i64 (M : Int)) ∧ W.cell? ⟨x, 1, none⟩ = some (.slice A9 qs9.length c9) ∧ (convert 33 9 (.slice A9 qs9.length c9)).run Try.prog W = .ok (.string (strOfNums qs9)) W ∧ Below w9.heap.size w9 W) :=
                  fun W hW => ⟨(hW.cell (p := ⟨x, 0, none⟩) hx9).trans c90, (hW.cell (p := ⟨x, 1, none⟩) hx9).trans c91, conv_row _ _ _ _ _ ((hrow9.below hW).more hW.size), hW⟩
                have HRING := Lib.hid hring9
                have HREF := Lib.hid href9
                have HBEL := Lib.hid hbel9
                obtain ⟨q9, hqq⟩ : ∃ q9, qs9.length = q9 := ⟨_, rfl⟩
                have HQQ := Lib.hid hqq
                have CLK : Hid (∀ W, Below w9.heap.size w9 W → Calls Try.prog 40 #[.pointer (some ⟨g, 0, none⟩), .int .i64 (q9 : Int)] W fun e w' => ∃ b, e = .returned (.slice (some ⟨b, 0, none⟩) q9 q9) ∧ (convert 33 9 (.slice (some ⟨b, 0, none⟩) q9 q9)).run Try.prog w' = .ok (.string (strOfNums qs9)) w' ∧ Below w9.heap.size w9 w') := by
                  intro W hW
                  have h := CLOOK.out W hW
                  rw [hqq] at h
                  refine h.mono ?_
                  rintro e w' ⟨b, rfl, hb, hw, hbb⟩
                  have hr := hw.row
                  rw [show (qs9.take q9).length = q9 by rw [List.length_take]; omega, List.take_of_length_le (by omega)] at hr
                  exact ⟨b, rfl, conv_row _ _ _ _ _ hr, hW.trans (hbb.mono hW.size)⟩
                rw [hqq] at CLEN CROOM KS c91 hq9
                have hwr9 : IntKind.i64.wrap ((M : Int) - (q9 : Int)) = (M : Int) - (q9 : Int) := IntWalk.i64_in _ (by omega)
                obtain ⟨S9, hS9⟩ : ∃ S9, strOfNums qs9 = S9 := ⟨_, rfl⟩
                rw [hS9] at KS CLK
                clear hg9 ho9 hring9 href9 hbel9 hrow9 CLOOK hqq hS9 c90 c91
                go_wp2
                go_region_held (fun W => W.cell? ⟨x, 0, none⟩ = some (.int .i64 (M : Int)) ∧ W.cell? ⟨x, 1, none⟩ = some (.slice A9 q9 c9) ∧ (convert 33 9 (.slice A9 q9 c9)).run Try.prog W = .ok (.string S9) W ∧ Below w9.heap.size w9 W)
                  (first | exact KS.out _ (Below.refl _ _).drew | exact KS.out _ (below_drewN (Below.refl _ _) _) | exact KS.out _ hb93 | exact KS.out _ (below_drewN (Below.refl _ _).drew _))
                  (first
                    | (go_at_call 44
                       refine (CLEN.out _ ?_).mono ?_
                       · first | assumption | exact (Below.refl _ _).drew | exact below_drewN (Below.refl _ _) _
                       rintro e w91 ⟨rfl, rfl⟩)
                    | (go_at_call 45
                       refine (CROOM.out _ ?_).mono ?_
                       · first | assumption | exact (Below.refl _ _).drew | exact below_drewN (Below.refl _ _) _
                       rintro e w92 ⟨rfl, d92, rfl⟩)
                    | (go_at_call 40
                       refine (CLK.out _ ?_).mono ?_
                       · first | assumption | exact (Below.refl _ _).drew | exact below_drewN (Below.refl _ _) _
                       rintro e w93 ⟨b93, rfl, hcv93, hb93⟩))
                all_goals
                  go_wp2
                  go_roundw
                  case rel => exact ⟨k + 1, a, by omega, by omega, by go_num, by go_num, PlayInv.mk HRING.out HREF.out HBEL.out (by first | exact hb93 | assumption)⟩
                  case measure => simp [intOf]; omega
      · -- the end
        obtain ⟨w9, hw9⟩ : ∃ w9, w9 = wo := ⟨_, rfl⟩
        subst hw9
        obtain ⟨f9, qs9, base9, hring9, href9, hbel9⟩ := HI.out
        have hlt2 : ¬ (k : Int) < (L : Int) := by omega
        have hlt3 : decide (k < L) = false := decide_eq_false hlt
        clear HI
        obtain ⟨A9, c9, hg9, ho9⟩ := href9.row
        have c90 := hg9.cell 0
        have c91 := hg9.cell 1
        simp only [List.getElem?_cons_succ, List.getElem?_cons_zero] at c90 c91
        have hx9 := hg9.lt
        have hq9 := hring9.len
        have hm9 := hring9.most
        have CLEN := Lib.hid (fun W (hW : Below w9.heap.size w9 W) => len_any W g p M f9 qs9 (hring9.below hW))
        have CROOM := Lib.hid (fun W (hW : Below w9.heap.size w9 W) => room_any W g p M f9 qs9 (hring9.below hW))
        have CLOOK := Lib.hid (fun W (hW : Below w9.heap.size w9 W) => look_any W g p M f9 qs9 (qs9.length : Int) qs9.length (hring9.below hW) (.inr (.inl ⟨by omega, rfl, Nat.le_refl _⟩)))
        have hrow9 : Row .u8 w9 w9.heap.size A9 qs9.length qs9 := (own_row ho9).ints
        have KS : Hid (∀ W, Below w9.heap.size w9 W → W.cell? ⟨x, 0, none⟩ = some (.int .i64 (M : Int)) ∧ W.cell? ⟨x, 1, none⟩ = some (.slice A9 qs9.length c9) ∧ (convert 33 9 (.slice A9 qs9.length c9)).run Try.prog W = .ok (.string (strOfNums qs9)) W ∧ Below w9.heap.size w9 W) :=
          fun W hW => ⟨(hW.cell (p := ⟨x, 0, none⟩) hx9).trans c90, (hW.cell (p := ⟨x, 1, none⟩) hx9).trans c91, conv_row _ _ _ _ _ ((hrow9.below hW).more hW.size), hW⟩
        have HRING := Lib.hid hring9
        have HREF := Lib.hid href9
        have HBEL := Lib.hid hbel9
        obtain ⟨q9, hqq⟩ : ∃ q9, qs9.length = q9 := ⟨_, rfl⟩
        have HQQ := Lib.hid hqq
        have CLK : Hid (∀ W, Below w9.heap.size w9 W → Calls Try.prog 40 #[.pointer (some ⟨g, 0, none⟩), .int .i64 (q9 : Int)] W fun e w' => ∃ b, e = .returned (.slice (some ⟨b, 0, none⟩) q9 q9) ∧ (convert 33 9 (.slice (some ⟨b, 0, none⟩) q9 q9)).run Try.prog w' = .ok (.string (strOfNums qs9)) w' ∧ Below w9.heap.size w9 w') := by
          intro W hW
          have h := CLOOK.out W hW
          rw [hqq] at h
          refine h.mono ?_
          rintro e w' ⟨b, rfl, hb, hw, hbb⟩
          have hr := hw.row
          rw [show (qs9.take q9).length = q9 by rw [List.length_take]; omega, List.take_of_length_le (by omega)] at hr
          exact ⟨b, rfl, conv_row _ _ _ _ _ hr, hW.trans (hbb.mono hW.size)⟩
        rw [hqq] at CLEN CROOM KS c91 hq9
        have hwr9 : IntKind.i64.wrap ((M : Int) - (q9 : Int)) = (M : Int) - (q9 : Int) := IntWalk.i64_in _ (by omega)
        obtain ⟨S9, hS9⟩ : ∃ S9, strOfNums qs9 = S9 := ⟨_, rfl⟩
        rw [hS9] at KS CLK
        clear hg9 ho9 hring9 href9 hbel9 hrow9 CLOOK hqq hS9 c90 c91
        go_wp2
        go_region_held (fun W => W.cell? ⟨x, 0, none⟩ = some (.int .i64 (M : Int)) ∧ W.cell? ⟨x, 1, none⟩ = some (.slice A9 q9 c9) ∧ (convert 33 9 (.slice A9 q9 c9)).run Try.prog W = .ok (.string S9) W ∧ Below w9.heap.size w9 W)
          (first | exact KS.out _ (Below.refl _ _).drew | exact KS.out _ (below_drewN (Below.refl _ _) _) | exact KS.out _ (below_drewN (Below.refl _ _).drew _))
          (first
            | (go_at_call 44
               refine (CLEN.out _ ?_).mono ?_
               · first | assumption | exact (Below.refl _ _).drew | exact below_drewN (Below.refl _ _) _
               rintro e w91 ⟨rfl, rfl⟩)
            | (go_at_call 45
               refine (CROOM.out _ ?_).mono ?_
               · first | assumption | exact (Below.refl _ _).drew | exact below_drewN (Below.refl _ _) _
               rintro e w92 ⟨rfl, d92, rfl⟩))
        all_goals
          go_wp2
          go_ret
          exact ⟨rfl, below_drewN HBEL.out _⟩

end Go.Proofs.Ytcmnhpogepahgaa

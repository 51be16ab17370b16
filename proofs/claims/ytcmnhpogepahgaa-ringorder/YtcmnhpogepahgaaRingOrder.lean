/- Proved: for every slice of bytes, every int and every slice of ints, busbarlaw9.RingOrder returns true, and its arguments read as before. Conditions: none. -/
import Derived.Test.YtcmnhpogepahgaaRLaw
namespace Go.Proofs.Ytcmnhpogepahgaa.ringOrder
open Go.ChangeShapes Go.WideShapes Go.ChangeAt Go.RowKit
open Go.ChangeMaps (open_string shut_string)
set_option linter.unusedVariables false


theorem walk_long (A : Option Addr) (n c : Nat) (a1 : Int) (S : Option Addr) (L d : Nat) (w : World) (h : 300 < n ∨ 100 < L) :
    Calls Try.prog 8 #[.slice A n c, .int .i64 a1, .slice S L d] w fun e w' => e = .returned (.bool true) ∧ Below w.heap.size w w' := by
  by_cases h1 : 300 < n
  · have h2 : (300 : Int) < (n : Int) := by omega
    clear h
    go_enter Try.func8, Try.ntmps8
    go_wp2_with (go_at_call 33; refine (awake_any _).mono ?_; rintro e w1 ⟨rfl, hb⟩; have HB := Lib.hid hb; clear hb)
    go_ret
    exact ⟨rfl, HB.out⟩
  · have h2 : ¬ (300 : Int) < (n : Int) := by omega
    have h3 : (100 : Int) < (L : Int) := by omega
    clear h
    go_enter Try.func8, Try.ntmps8
    go_wp2_with (go_at_call 33; refine (awake_any _).mono ?_; rintro e w1 ⟨rfl, hb⟩; have HB := Lib.hid hb; clear hb)
    go_ret
    exact ⟨rfl, HB.out⟩

set_option maxRecDepth 100000 in
set_option maxHeartbeats 4000000 in
theorem walk_zero (A : Option Addr) (c : Nat) (bs : List Int) (a1 : Int) (S : Option Addr) (L d : Nat) (ks : List Int) (M0 : Nat) (w : World) (hr : Row .u8 w w.heap.size A 0 bs) (hs : Row .i64 w w.heap.size S L ks) (hk : ∀ k ∈ ks, -9223372036854775808 ≤ k ∧ k ≤ 9223372036854775807) (b1 : -9223372036854775808 ≤ a1 ∧ a1 ≤ 9223372036854775807) (hM : a1 % 50 = (M0 : Int)) (hL : L ≤ 100) :
    Calls Try.prog 8 #[.slice A 0 c, .int .i64 a1, .slice S L d] w fun e w' => e = .returned (.bool true) ∧ Below w.heap.size w w' := by
  have hi2 : ¬ (100 : Int) < (L : Int) := by omega
  have CW := Lib.hid (fun W => within_any a1 50 W b1.1 b1.2 (by omega) (by omega))
  rw [hM] at CW
  have hM2 : M0 < 50 := by omega
  have CN := Lib.hid (fun W => new_any (1 + (M0 : Int)) (1 + M0) W (by omega) (by omega) (by rw [if_neg (show ¬ 1 + (M0 : Int) < 0 by omega), if_neg (show ¬ (65536 : Int) < 1 + (M0 : Int) by omega)]; omega))
  have HR := Lib.hid hr
  have HS := Lib.hid hs
  have HK := Lib.hid hk
  clear hr hs hk hM b1
  go_enter Try.func8, Try.ntmps8
  go_wp2_with (first
    | (go_at_call 33; refine (awake_any _).mono ?_; rintro e w1 ⟨rfl, hb⟩; have HB1 := Lib.hid hb; clear hb)
    | (go_at_call 22; (with_reducible refine (CW.out _).mono ?_); rintro e w' ⟨rfl, rfl⟩)
    | (go_at_call 34
       (with_reducible refine (CN.out _).mono ?_)
       rintro e w2 ⟨g, p, rfl, hr, hg, hp, hb⟩
       have HB2 := Lib.hid (HB1.out.trans (hb.mono HB1.out.size))
       have HR2 := Lib.hid hr
       have HGP : Hid (w.heap.size ≤ g ∧ w.heap.size ≤ p) := by have := HB1.out.size; show _ ∧ _; omega
       have HLT := Lib.hid hr.lt
       clear hr hg hp hb))
  go_loopw [8, 9, 10] (fun o v i wr => ∃ k O : Nat, ∃ A2 c2, k ≤ L ∧ i = .int .i64 (k : Int) ∧ v = .int .i64 0 ∧ o = .slice A2 O c2 ∧ Hid (OrdInv w w2 g p (1 + M0) bs wr A2 O c2 0)) (fun _ _ i _ => L - (intOf i).toNat)
  case atStart => exact ⟨0, 0, none, 0, by omega, rfl, rfl, rfl, 0, [], [], HR2.out, own_none _ _ _, by simp, HB2.out, Nat.le_refl _⟩
  case round =>
    obtain ⟨k, O, A2, c2, hk, rfl, rfl, rfl, HI⟩ := hrel
    by_cases hlt : k < L
    · obtain ⟨bS, offS, hS, hbS, hcell⟩ := HS.out.2 (by omega)
      subst hS
      have hsk := hcell k hlt
      obtain ⟨s, hs⟩ : ∃ s, ks.getD k 0 = s := ⟨_, rfl⟩
      have hsb := HK.out s (by
        have hl := HS.out.1
        rw [← hs, List.getD_eq_getElem?_getD, List.getElem?_eq_getElem (by omega)]
        exact List.getElem_mem _)
      rw [hs] at hsk
      obtain ⟨E, hE⟩ := Int.eq_ofNat_of_zero_le (Int.emod_nonneg s (show (30 : Int) ≠ 0 by omega))
      obtain ⟨D, hD⟩ := Int.eq_ofNat_of_zero_le (Int.emod_nonneg (s.tdiv 30) (show (30 : Int) ≠ 0 by omega))
      have CE := Lib.hid (fun W => within_any s 30 W hsb.1 hsb.2 (by omega) (by omega))
      rw [hE] at CE
      have CD := Lib.hid (fun W => digit_by s 30 30 D W hD hsb.1 hsb.2 (by omega) (by omega) (by omega) (by omega))
      have hE2 : E < 30 := by omega
      have hD2 : D < 30 := by omega
      obtain ⟨f, qs, ol, hring, hown, hcat, hbelow, hsz⟩ := HI.out
      have hwrS : wr.cell? ⟨bS, offS + k, none⟩ = some (.int .i64 s) := (hbelow.cell hbS).trans hsk
      have HCS := Lib.hid hsk
      have HRG := Lib.hid hring
      have HOW := Lib.hid hown
      have HCAT := Lib.hid hcat
      have HBW := Lib.hid hbelow
      have HSZ := Lib.hid hsz
      have hq := hring.len
      clear hcell hs hE hD hsk hring hown hcat hbelow hsz hsb HI
      have hik : (k : Int) < (L : Int) := by omega
      have HROW : Hid (RowOff wr (GP g p) A 0 ((bs.drop 0).take 0)) := rowoff_nil _ _ _
      rcases Nat.eq_zero_or_pos E with hE0 | hE0
      all_goals
        try subst hE0
        go_wp2_with (first
          | (go_at_call 22; (with_reducible refine (CE.out _).mono ?_); rintro e w' ⟨rfl, rfl⟩)
          | (go_at_call 38
             (with_reducible refine (put_any wr g p (1 + M0) f qs A 0 c ((bs.drop 0).take 0) (min 0 (1 + M0 - qs.length)) HRG.out HROW.out (by omega) (by omega) rfl).mono ?_)
             intro e w5 hput
             obtain ⟨m, hm⟩ : ∃ m, min 0 (1 + M0 - qs.length) = m := ⟨_, rfl⟩
             rw [hm] at hput
             obtain rfl : m = 0 := by omega
             have hI5 := OrdInv.put HLT.out HGP.out HOW.out HCAT.out HBW.out HSZ.out (by omega) hput
             obtain rfl := hput.1
             obtain ⟨f5, qs5, ol5, hr5, ho5, hc5, hb5, hz5⟩ := hI5
             have hsz5 : w5.cell? ⟨bS, offS + k, none⟩ = some (.int .i64 s) := (hb5.cell hbS).trans HCS.out
             obtain ⟨mt, hmt5⟩ := cnt_some (D : Int) qs5.length
             have C6 := Lib.hid (take_any w5 g p (1 + M0) f5 qs5 (D : Int) mt hr5 hmt5)
             have HMT5 := Lib.hid hmt5.le
             have HO5 := Lib.hid ho5
             have HC5 := Lib.hid hc5
             have HB5 := Lib.hid hb5
             have HZ5 := Lib.hid hz5
             have hmtO : O + mt ≤ 600 := by
               have h1 := ho5.1
               have h2 := congrArg List.length hc5
               have h3 := hmt5.le
               rw [List.length_append, List.length_take] at h2
               rw [List.length_map] at h1
               omega
             clear hput hr5 ho5 hc5 hb5 hz5 hmt5 hm)
          | (go_at_call 36; (with_reducible refine (CD.out _).mono ?_); rintro e w' ⟨rfl, rfl⟩)
          | (go_at_call 42
             (with_reducible refine C6.out.mono ?_)
             rintro e w6 ⟨b6, rfl, hbb, hW6, hr6, ho6⟩
             have HO6 : Hid (w6.ownsRow w2.heap.size 5 1 (.slice A2 O c2) O (ol5.map (Value.int .u8))) := ho6.own HO5.out (fun k hk _ hs => by have := HLT.out; rcases hs with hs | hs <;> omega)
             have HB6 : Hid (Below w.heap.size w w6) := below_gp HB5.out HB5.out.size ho6 HGP.out.1 HGP.out.2
             have HR6 := Lib.hid hr6
             have HZ6 : Hid (w2.heap.size ≤ w6.heap.size) := Nat.le_trans HZ5.out ho6.size
             have HV6 : Hid (RowV w6 w6.heap.size (some ⟨b6, 0, none⟩) mt ((qs5.take mt).map (Value.int .u8))) := by
               have h := hW6.row
               have hl : (qs5.take mt).length = mt := by rw [List.length_take]; exact Nat.min_eq_left HMT5.out
               rw [hl] at h
               exact h.v
             clear hbb hW6 hr6 ho6)
          | (at_builtin
             refine wpList_append_row _ (o := ⟨some 65, _, _, _, _, _⟩) rfl (.tmp 57) (.tmp 64) 33 rfl w2.heap.size 5 (.int .u8 0) 1 Try.underlying33 info5 rfl (.slice A2 O c2) O _ rfl HO6.out _ (some ⟨b6, 0, none⟩) mt mt _ rfl HV6.out (one_cells _ _) (by omega) (by omega) HZ6.out ?_
             intro v7 w7 hown7 hg7 hat7
             obtain ⟨A7, c7, rfl⟩ := own_slice hown7
             have HI7 := Lib.hid (OrdInv.taken HLT.out HB2.out.size HR6.out HB6.out HZ6.out HC5.out hown7 hg7 (own_ge HO6.out))
             clear hown7 hg7 hat7))
        go_roundw
        case rel => exact ⟨k + 1, O + mt, A7, c7, by omega, by go_num, rfl, rfl, HI7⟩
        case measure => simp [intOf]; omega
    · obtain rfl : k = L := by omega
      obtain ⟨f, qs, ol, hring, hown, hcat, hbelow, hsz⟩ := HI.out
      have hq := hring.len
      have C6 := Lib.hid (take_any wr g p (1 + M0) f qs 1000 qs.length hring (.inr (.inr ⟨by omega, rfl⟩)))
      have hOq : O + qs.length ≤ 600 := by
        have h1 := hown.1
        have h2 := congrArg List.length hcat
        rw [List.length_append, List.length_take] at h2
        rw [List.length_map] at h1
        omega
      have HOW := Lib.hid hown
      have HCAT := Lib.hid hcat
      have HBW := Lib.hid hbelow
      have HSZ := Lib.hid hsz
      clear hring hown hcat hbelow hsz HI
      have hkk : ¬ (k : Int) < (k : Int) := by omega
      have hkk2 : decide (k < k) = false := by simp
      go_wp2_with (first
        | (go_at_call 42
           (with_reducible refine C6.out.mono ?_)
           rintro e w6 ⟨b6, rfl, hbb, hW6, hr6, ho6⟩
           have HO6 : Hid (w6.ownsRow w2.heap.size 5 1 (.slice A2 O c2) O (ol.map (Value.int .u8))) := ho6.own HOW.out (fun k hk _ hs => by have := HLT.out; rcases hs with hs | hs <;> omega)
           have HB6 : Hid (Below w.heap.size w w6) := below_gp HBW.out HBW.out.size ho6 HGP.out.1 HGP.out.2
           have HR6 := Lib.hid hr6
           have HZ6 : Hid (w2.heap.size ≤ w6.heap.size) := Nat.le_trans HSZ.out ho6.size
           have HV6 : Hid (RowV w6 w6.heap.size (some ⟨b6, 0, none⟩) qs.length ((qs.take qs.length).map (Value.int .u8))) := by
             have h := hW6.row
             have hl : (qs.take qs.length).length = qs.length := by rw [List.length_take]; exact Nat.min_eq_left (Nat.le_refl _)
             rw [hl] at h
             exact h.v
           clear hbb hW6 hr6 ho6)
        | (at_builtin
           refine wpList_append_row _ (o := ⟨some 69, _, _, _, _, _⟩) rfl (.tmp 66) (.tmp 68) 33 rfl w2.heap.size 5 (.int .u8 0) 1 Try.underlying33 info5 rfl (.slice A2 O c2) O _ rfl HO6.out _ (some ⟨b6, 0, none⟩) qs.length qs.length _ rfl HV6.out (one_cells _ _) (by omega) (by omega) HZ6.out ?_
           intro v7 w7 hown7 hg7 hat7
           obtain ⟨A7, c7, rfl⟩ := own_slice hown7
           obtain ⟨hr7, hrow7, hb7⟩ := ord_end HLT.out HB2.out.size HR6.out HB6.out HCAT.out hown7 hg7 (own_ge HO6.out)
           have HR7 := Lib.hid hr7
           have HRW7 := Lib.hid hrow7
           have HB7 := Lib.hid hb7
           clear hown7 hg7 hat7 hr7 hrow7 hb7))
      have CLEN := Lib.hid (fun W (hW : Below w7.heap.size w7 W) => len_any W g p (1 + M0) _ [] (HR7.out.below hW))
      have CROOM : Hid (∀ W, Below w7.heap.size w7 W → Calls Try.prog 45 #[.pointer (some ⟨g, 0, none⟩)] W (Quiet (.int .i64 (1 + (M0 : Int))) W)) := by
        intro W hW
        have h := room_any W g p (1 + M0) _ [] (HR7.out.below hW)
        rwa [show ((1 + M0 : Nat) : Int) - (([] : List Int).length : Int) = 1 + (M0 : Int) by simp] at h
      have KS : Hid (∀ W, Below w7.heap.size w7 W → (convert 33 9 (.slice A7 (O + qs.length) c7)).run Try.prog W = .ok (.string (strOfNums (bs.take 0))) W ∧ (convert 33 9 (.slice A 0 c)).run Try.prog W = .ok (.string (strOfNums (bs.take 0))) W ∧ Below w7.heap.size w7 W) := by
        intro W h
        refine ⟨conv_row _ _ _ _ _ ((HRW7.out.below h).more h.size), conv_row _ _ _ _ _ ?_, h⟩
        have h2 := ((HR.out.below HB7.out).more HB7.out.size)
        have h3 : Row .u8 w7 w7.heap.size A (0 + (0 - 0)) (bs.take 0 ++ bs.drop 0) := by
          rw [List.take_append_drop, Nat.add_sub_cancel' (by omega)]
          exact h2
        exact (((h3.front (by rw [List.length_take, HR.out.1]; omega)).below h).more h.size)
      obtain ⟨S0, hS0⟩ : ∃ S0, strOfNums (bs.take 0) = S0 := ⟨_, rfl⟩
      rw [hS0] at KS
      clear hS0
      have hwM : IntKind.i64.wrap (1 + (M0 : Int)) = 1 + (M0 : Int) := IntWalk.i64_in _ (by omega)
      go_region_held (fun W => (convert 33 9 (.slice A7 (O + qs.length) c7)).run Try.prog W = .ok (.string S0) W ∧ (convert 33 9 (.slice A 0 c)).run Try.prog W = .ok (.string S0) W ∧ Below w7.heap.size w7 W)
        (first | exact KS.out _ (Below.refl _ _).drew | exact KS.out _ (below_drewN (Below.refl _ _) _) | exact KS.out _ (below_drewN (Below.refl _ _).drew _))
        (first
          | (go_at_call 44
             refine (CLEN.out _ ?_).mono ?_
             · first | assumption | exact (Below.refl _ _).drew
             rintro e w8 ⟨rfl, rfl⟩)
          | (go_at_call 45
             refine (CROOM.out _ ?_).mono ?_
             · first | assumption | exact (Below.refl _ _).drew
             rintro e w8 ⟨rfl, d8, rfl⟩)
          | (go_at_call 22; (with_reducible refine (CW.out _).mono ?_); rintro e w' ⟨rfl, rfl⟩))
      all_goals
        go_wp2
        go_ret
        exact ⟨rfl, below_drewN HB7.out _⟩

set_option maxRecDepth 100000 in
set_option maxHeartbeats 4000000 in
theorem walk_some (b off n c : Nat) (bs : List Int) (a1 : Int) (S : Option Addr) (L d : Nat) (ks : List Int) (M0 : Nat) (w : World) (hr : Row .u8 w w.heap.size (some ⟨b, off, none⟩) n bs) (hc : n ≤ c) (hn0 : 0 < n) (hn : n ≤ 300) (hs : Row .i64 w w.heap.size S L ks) (hk : ∀ k ∈ ks, -9223372036854775808 ≤ k ∧ k ≤ 9223372036854775807) (b1 : -9223372036854775808 ≤ a1 ∧ a1 ≤ 9223372036854775807) (hM : a1 % 50 = (M0 : Int)) (hL : L ≤ 100) :
    Calls Try.prog 8 #[.slice (some ⟨b, off, none⟩) n c, .int .i64 a1, .slice S L d] w fun e w' => e = .returned (.bool true) ∧ Below w.heap.size w w' := by
  have hi1 : ¬ (300 : Int) < (n : Int) := by omega
  have hi2 : ¬ (100 : Int) < (L : Int) := by omega
  have CW := Lib.hid (fun W => within_any a1 50 W b1.1 b1.2 (by omega) (by omega))
  rw [hM] at CW
  have hM2 : M0 < 50 := by omega
  have CN := Lib.hid (fun W => new_any (1 + (M0 : Int)) (1 + M0) W (by omega) (by omega) (by rw [if_neg (show ¬ 1 + (M0 : Int) < 0 by omega), if_neg (show ¬ (65536 : Int) < 1 + (M0 : Int) by omega)]; omega))
  have HR := Lib.hid hr
  have HS := Lib.hid hs
  have HK := Lib.hid hk
  clear hr hs hk hM b1
  go_enter Try.func8, Try.ntmps8
  go_wp2_with (first
    | (go_at_call 33; refine (awake_any _).mono ?_; rintro e w1 ⟨rfl, hb⟩; have HB1 := Lib.hid hb; clear hb)
    | (go_at_call 22; (with_reducible refine (CW.out _).mono ?_); rintro e w' ⟨rfl, rfl⟩)
    | (go_at_call 34
       (with_reducible refine (CN.out _).mono ?_)
       rintro e w2 ⟨g, p, rfl, hr, hg, hp, hb⟩
       have HB2 := Lib.hid (HB1.out.trans (hb.mono HB1.out.size))
       have HR2 := Lib.hid hr
       have HGP : Hid (w.heap.size ≤ g ∧ w.heap.size ≤ p) := by have := HB1.out.size; show _ ∧ _; omega
       have HLT := Lib.hid hr.lt
       clear hr hg hp hb))
  go_loopw [8, 9, 10] (fun o v i wr => ∃ k I O : Nat, ∃ A2 c2, k ≤ L ∧ I ≤ n ∧ i = .int .i64 (k : Int) ∧ v = .int .i64 (I : Int) ∧ o = .slice A2 O c2 ∧ Hid (OrdInv w w2 g p (1 + M0) bs wr A2 O c2 I)) (fun _ _ i _ => L - (intOf i).toNat)
  case atStart => exact ⟨0, 0, 0, none, 0, by omega, by omega, rfl, rfl, rfl, 0, [], [], HR2.out, own_none _ _ _, by simp, HB2.out, Nat.le_refl _⟩
  case round =>
    obtain ⟨k, I, O, A2, c2, hk, hI, rfl, rfl, rfl, HI⟩ := hrel
    by_cases hlt : k < L
    · obtain ⟨bS, offS, hS, hbS, hcell⟩ := HS.out.2 (by omega)
      subst hS
      have hsk := hcell k hlt
      obtain ⟨s, hs⟩ : ∃ s, ks.getD k 0 = s := ⟨_, rfl⟩
      have hsb := HK.out s (by
        have hl := HS.out.1
        rw [← hs, List.getD_eq_getElem?_getD, List.getElem?_eq_getElem (by omega)]
        exact List.getElem_mem _)
      rw [hs] at hsk
      obtain ⟨E, hE⟩ := Int.eq_ofNat_of_zero_le (Int.emod_nonneg s (show (30 : Int) ≠ 0 by omega))
      obtain ⟨D, hD⟩ := Int.eq_ofNat_of_zero_le (Int.emod_nonneg (s.tdiv 30) (show (30 : Int) ≠ 0 by omega))
      have CE := Lib.hid (fun W => within_any s 30 W hsb.1 hsb.2 (by omega) (by omega))
      rw [hE] at CE
      have CD := Lib.hid (fun W => digit_by s 30 30 D W hD hsb.1 hsb.2 (by omega) (by omega) (by omega) (by omega))
      have hE2 : E < 30 := by omega
      have hD2 : D < 30 := by omega
      obtain ⟨f, qs, ol, hring, hown, hcat, hbelow, hsz⟩ := HI.out
      have hwrS : wr.cell? ⟨bS, offS + k, none⟩ = some (.int .i64 s) := (hbelow.cell hbS).trans hsk
      have HCS := Lib.hid hsk
      have HRG := Lib.hid hring
      have HOW := Lib.hid hown
      have HCAT := Lib.hid hcat
      have HBW := Lib.hid hbelow
      have HSZ := Lib.hid hsz
      have hq := hring.len
      clear hcell hs hE hD hsk hring hown hcat hbelow hsz hsb HI
      have hik : (k : Int) < (L : Int) := by omega
      obtain ⟨R, hR⟩ : ∃ R, I + R = n := ⟨n - I, by omega⟩
      obtain ⟨t, ht⟩ : ∃ t, (R < E ∧ t = R) ∨ (¬ R < E ∧ t = E) := by
        by_cases h : R < E
        · exact ⟨R, .inl ⟨h, rfl⟩⟩
        · exact ⟨E, .inr ⟨h, rfl⟩⟩
      have htR : t ≤ R := by omega
      have htn : I + t ≤ n := by omega
      have htc : (I : Int) + (t : Int) ≤ (c : Int) := by omega
      have hIc : (I : Int) ≤ (c : Int) := by omega
      by_cases hcI : c = I
      · have hIn : n = I := by omega
        have hR0 : 0 = R := by omega
        subst hR0
        have ht0 : 0 = t := by omega
        subst ht0
        subst hcI
        have HROW : Hid (RowOff wr (GP g p) (some ⟨b, off, none⟩) 0 ((bs.drop c).take 0)) := by rw [List.take_zero]; exact rowoff_nil _ _ _
        have hnI : (n : Int) - (c : Int) = 0 := by omega
        clear hR htR htn htc hIn
        rcases ht with ⟨hc1, ht⟩ | ⟨hc1, ht⟩
        all_goals
          first | subst ht | clear ht
          go_wp2_with (first
            | (go_at_call 22; (with_reducible refine (CE.out _).mono ?_); rintro e w' ⟨rfl, rfl⟩)
            | (go_at_call 38
               (with_reducible refine (put_any wr g p (1 + M0) f qs (some ⟨b, off, none⟩) 0 0 ((bs.drop c).take 0) (min 0 (1 + M0 - qs.length)) HRG.out HROW.out (by omega) (by omega) rfl).mono ?_)
               intro e w5 hput
               obtain ⟨m, hm⟩ : ∃ m, min 0 (1 + M0 - qs.length) = m := ⟨_, rfl⟩
               rw [hm] at hput
               obtain rfl : m = 0 := by omega
               have hI5 := OrdInv.put HLT.out HGP.out HOW.out HCAT.out HBW.out HSZ.out (by omega) hput
               obtain rfl := hput.1
               obtain ⟨f5, qs5, ol5, hr5, ho5, hc5, hb5, hz5⟩ := hI5
               have hsz5 : w5.cell? ⟨bS, offS + k, none⟩ = some (.int .i64 s) := (hb5.cell hbS).trans HCS.out
               obtain ⟨mt, hmt5⟩ := cnt_some (D : Int) qs5.length
               have C6 := Lib.hid (take_any w5 g p (1 + M0) f5 qs5 (D : Int) mt hr5 hmt5)
               have HMT5 := Lib.hid hmt5.le
               have HO5 := Lib.hid ho5
               have HC5 := Lib.hid hc5
               have HB5 := Lib.hid hb5
               have HZ5 := Lib.hid hz5
               have hmtO : O + mt ≤ 600 := by
                 have h1 := ho5.1
                 have h2 := congrArg List.length hc5
                 have h3 := hmt5.le
                 rw [List.length_append, List.length_take] at h2
                 rw [List.length_map] at h1
                 omega
               clear hput hr5 ho5 hc5 hb5 hz5 hmt5 hm)
            | (go_at_call 36; (with_reducible refine (CD.out _).mono ?_); rintro e w' ⟨rfl, rfl⟩)
            | (go_at_call 42
               (with_reducible refine C6.out.mono ?_)
               rintro e w6 ⟨b6, rfl, hbb, hW6, hr6, ho6⟩
               have HO6 : Hid (w6.ownsRow w2.heap.size 5 1 (.slice A2 O c2) O (ol5.map (Value.int .u8))) := ho6.own HO5.out (fun k hk _ hs => by have := HLT.out; rcases hs with hs | hs <;> omega)
               have HB6 : Hid (Below w.heap.size w w6) := below_gp HB5.out HB5.out.size ho6 HGP.out.1 HGP.out.2
               have HR6 := Lib.hid hr6
               have HZ6 : Hid (w2.heap.size ≤ w6.heap.size) := Nat.le_trans HZ5.out ho6.size
               have HV6 : Hid (RowV w6 w6.heap.size (some ⟨b6, 0, none⟩) mt ((qs5.take mt).map (Value.int .u8))) := by
                 have h := hW6.row
                 have hl : (qs5.take mt).length = mt := by rw [List.length_take]; exact Nat.min_eq_left HMT5.out
                 rw [hl] at h
                 exact h.v
               clear hbb hW6 hr6 ho6)
            | (at_builtin
               refine wpList_append_row _ (o := ⟨some 65, _, _, _, _, _⟩) rfl (.tmp 57) (.tmp 64) 33 rfl w2.heap.size 5 (.int .u8 0) 1 Try.underlying33 info5 rfl (.slice A2 O c2) O _ rfl HO6.out _ (some ⟨b6, 0, none⟩) mt mt _ rfl HV6.out (one_cells _ _) (by omega) (by omega) HZ6.out ?_
               intro v7 w7 hown7 hg7 hat7
               obtain ⟨A7, c7, rfl⟩ := own_slice hown7
               have HI7 := Lib.hid (OrdInv.taken HLT.out HB2.out.size HR6.out HB6.out HZ6.out HC5.out hown7 hg7 (own_ge HO6.out))
               clear hown7 hg7 hat7))
          go_roundw
          case rel => exact ⟨k + 1, c, O + mt, A7, c7, by omega, by omega, by go_num, rfl, rfl, HI7⟩
          case measure => simp [intOf]; omega
      · have HROW : Hid (RowOff wr (GP g p) (some ⟨b, off + I, none⟩) t ((bs.drop I).take t)) := row_part HR.out HBW.out HGP.out.1 HGP.out.2 htn b off rfl
        have hnI : (n : Int) - (I : Int) = (R : Int) := by omega
        clear hR
        rcases ht with ⟨hc1, ht⟩ | ⟨hc1, ht⟩
        all_goals
          subst ht
          go_wp2_with (first
            | (go_at_call 22; (with_reducible refine (CE.out _).mono ?_); rintro e w' ⟨rfl, rfl⟩)
            | (go_at_call 38
               (with_reducible refine (put_any wr g p (1 + M0) f qs (some ⟨b, off + I, none⟩) t (c - I) ((bs.drop I).take t) (min t (1 + M0 - qs.length)) HRG.out HROW.out (by omega) (by omega) rfl).mono ?_)
               intro e w5 hput
               obtain ⟨m, hm⟩ : ∃ m, min t (1 + M0 - qs.length) = m := ⟨_, rfl⟩
               rw [hm] at hput
               have hmt : m ≤ t := by omega
               have hI5 := OrdInv.put HLT.out HGP.out HOW.out HCAT.out HBW.out HSZ.out (by omega) hput
               obtain rfl := hput.1
               obtain ⟨f5, qs5, ol5, hr5, ho5, hc5, hb5, hz5⟩ := hI5
               have hsz5 : w5.cell? ⟨bS, offS + k, none⟩ = some (.int .i64 s) := (hb5.cell hbS).trans HCS.out
               obtain ⟨mt, hmt5⟩ := cnt_some (D : Int) qs5.length
               have C6 := Lib.hid (take_any w5 g p (1 + M0) f5 qs5 (D : Int) mt hr5 hmt5)
               have HMT5 := Lib.hid hmt5.le
               have HO5 := Lib.hid ho5
               have HC5 := Lib.hid hc5
               have HB5 := Lib.hid hb5
               have HZ5 := Lib.hid hz5
               have hmtO : O + mt ≤ 600 := by
                 have h1 := ho5.1
                 have h2 := congrArg List.length hc5
                 have h3 := hmt5.le
                 rw [List.length_append, List.length_take] at h2
                 rw [List.length_map] at h1
                 omega
               have hmI : I + m ≤ n := by omega
               clear hput hr5 ho5 hc5 hb5 hz5 hmt5 hm)
            | (go_at_call 36; (with_reducible refine (CD.out _).mono ?_); rintro e w' ⟨rfl, rfl⟩)
            | (go_at_call 42
               (with_reducible refine C6.out.mono ?_)
               rintro e w6 ⟨b6, rfl, hbb, hW6, hr6, ho6⟩
               have HO6 : Hid (w6.ownsRow w2.heap.size 5 1 (.slice A2 O c2) O (ol5.map (Value.int .u8))) := ho6.own HO5.out (fun k hk _ hs => by have := HLT.out; rcases hs with hs | hs <;> omega)
               have HB6 : Hid (Below w.heap.size w w6) := below_gp HB5.out HB5.out.size ho6 HGP.out.1 HGP.out.2
               have HR6 := Lib.hid hr6
               have HZ6 : Hid (w2.heap.size ≤ w6.heap.size) := Nat.le_trans HZ5.out ho6.size
               have HV6 : Hid (RowV w6 w6.heap.size (some ⟨b6, 0, none⟩) mt ((qs5.take mt).map (Value.int .u8))) := by
                 have h := hW6.row
                 have hl : (qs5.take mt).length = mt := by rw [List.length_take]; exact Nat.min_eq_left HMT5.out
                 rw [hl] at h
                 exact h.v
               clear hbb hW6 hr6 ho6)
            | (at_builtin
               refine wpList_append_row _ (o := ⟨some 65, _, _, _, _, _⟩) rfl (.tmp 57) (.tmp 64) 33 rfl w2.heap.size 5 (.int .u8 0) 1 Try.underlying33 info5 rfl (.slice A2 O c2) O _ rfl HO6.out _ (some ⟨b6, 0, none⟩) mt mt _ rfl HV6.out (one_cells _ _) (by omega) (by omega) HZ6.out ?_
               intro v7 w7 hown7 hg7 hat7
               obtain ⟨A7, c7, rfl⟩ := own_slice hown7
               have HI7 := Lib.hid (OrdInv.taken HLT.out HB2.out.size HR6.out HB6.out HZ6.out HC5.out hown7 hg7 (own_ge HO6.out))
               clear hown7 hg7 hat7))
          go_roundw
          case rel => exact ⟨k + 1, I + m, O + mt, A7, c7, by omega, hmI, by go_num, by go_num, rfl, HI7⟩
          case measure => simp [intOf]; omega
    · obtain rfl : k = L := by omega
      obtain ⟨f, qs, ol, hring, hown, hcat, hbelow, hsz⟩ := HI.out
      have hq := hring.len
      have C6 := Lib.hid (take_any wr g p (1 + M0) f qs 1000 qs.length hring (.inr (.inr ⟨by omega, rfl⟩)))
      have hOq : O + qs.length ≤ 600 := by
        have h1 := hown.1
        have h2 := congrArg List.length hcat
        rw [List.length_append, List.length_take] at h2
        rw [List.length_map] at h1
        omega
      have HOW := Lib.hid hown
      have HCAT := Lib.hid hcat
      have HBW := Lib.hid hbelow
      have HSZ := Lib.hid hsz
      clear hring hown hcat hbelow hsz HI
      have hkk : ¬ (k : Int) < (k : Int) := by omega
      have hkk2 : decide (k < k) = false := by simp
      go_wp2_with (first
        | (go_at_call 42
           (with_reducible refine C6.out.mono ?_)
           rintro e w6 ⟨b6, rfl, hbb, hW6, hr6, ho6⟩
           have HO6 : Hid (w6.ownsRow w2.heap.size 5 1 (.slice A2 O c2) O (ol.map (Value.int .u8))) := ho6.own HOW.out (fun k hk _ hs => by have := HLT.out; rcases hs with hs | hs <;> omega)
           have HB6 : Hid (Below w.heap.size w w6) := below_gp HBW.out HBW.out.size ho6 HGP.out.1 HGP.out.2
           have HR6 := Lib.hid hr6
           have HZ6 : Hid (w2.heap.size ≤ w6.heap.size) := Nat.le_trans HSZ.out ho6.size
           have HV6 : Hid (RowV w6 w6.heap.size (some ⟨b6, 0, none⟩) qs.length ((qs.take qs.length).map (Value.int .u8))) := by
             have h := hW6.row
             have hl : (qs.take qs.length).length = qs.length := by rw [List.length_take]; exact Nat.min_eq_left (Nat.le_refl _)
             rw [hl] at h
             exact h.v
           clear hbb hW6 hr6 ho6)
        | (at_builtin
           refine wpList_append_row _ (o := ⟨some 69, _, _, _, _, _⟩) rfl (.tmp 66) (.tmp 68) 33 rfl w2.heap.size 5 (.int .u8 0) 1 Try.underlying33 info5 rfl (.slice A2 O c2) O _ rfl HO6.out _ (some ⟨b6, 0, none⟩) qs.length qs.length _ rfl HV6.out (one_cells _ _) (by omega) (by omega) HZ6.out ?_
           intro v7 w7 hown7 hg7 hat7
           obtain ⟨A7, c7, rfl⟩ := own_slice hown7
           obtain ⟨hr7, hrow7, hb7⟩ := ord_end HLT.out HB2.out.size HR6.out HB6.out HCAT.out hown7 hg7 (own_ge HO6.out)
           have HR7 := Lib.hid hr7
           have HRW7 := Lib.hid hrow7
           have HB7 := Lib.hid hb7
           clear hown7 hg7 hat7 hr7 hrow7 hb7))
      have CLEN := Lib.hid (fun W (hW : Below w7.heap.size w7 W) => len_any W g p (1 + M0) _ [] (HR7.out.below hW))
      have CROOM : Hid (∀ W, Below w7.heap.size w7 W → Calls Try.prog 45 #[.pointer (some ⟨g, 0, none⟩)] W (Quiet (.int .i64 (1 + (M0 : Int))) W)) := by
        intro W hW
        have h := room_any W g p (1 + M0) _ [] (HR7.out.below hW)
        rwa [show ((1 + M0 : Nat) : Int) - (([] : List Int).length : Int) = 1 + (M0 : Int) by simp] at h
      have KS : Hid (∀ W, Below w7.heap.size w7 W → (convert 33 9 (.slice A7 (O + qs.length) c7)).run Try.prog W = .ok (.string (strOfNums (bs.take I))) W ∧ (convert 33 9 (.slice (some ⟨b, off, none⟩) I c)).run Try.prog W = .ok (.string (strOfNums (bs.take I))) W ∧ Below w7.heap.size w7 W) := by
        intro W h
        refine ⟨conv_row _ _ _ _ _ ((HRW7.out.below h).more h.size), conv_row _ _ _ _ _ ?_, h⟩
        have h2 := ((HR.out.below HB7.out).more HB7.out.size)
        have h3 : Row .u8 w7 w7.heap.size (some ⟨b, off, none⟩) (I + (n - I)) (bs.take I ++ bs.drop I) := by
          rw [List.take_append_drop, Nat.add_sub_cancel' (by omega)]
          exact h2
        exact (((h3.front (by rw [List.length_take, HR.out.1]; omega)).below h).more h.size)
      obtain ⟨S0, hS0⟩ : ∃ S0, strOfNums (bs.take I) = S0 := ⟨_, rfl⟩
      rw [hS0] at KS
      clear hS0
      have hwM : IntKind.i64.wrap (1 + (M0 : Int)) = 1 + (M0 : Int) := IntWalk.i64_in _ (by omega)
      go_region_held (fun W => (convert 33 9 (.slice A7 (O + qs.length) c7)).run Try.prog W = .ok (.string S0) W ∧ (convert 33 9 (.slice (some ⟨b, off, none⟩) I c)).run Try.prog W = .ok (.string S0) W ∧ Below w7.heap.size w7 W)
        (first | exact KS.out _ (Below.refl _ _).drew | exact KS.out _ (below_drewN (Below.refl _ _) _) | exact KS.out _ (below_drewN (Below.refl _ _).drew _))
        (first
          | (go_at_call 44
             refine (CLEN.out _ ?_).mono ?_
             · first | assumption | exact (Below.refl _ _).drew
             rintro e w8 ⟨rfl, rfl⟩)
          | (go_at_call 45
             refine (CROOM.out _ ?_).mono ?_
             · first | assumption | exact (Below.refl _ _).drew
             rintro e w8 ⟨rfl, d8, rfl⟩)
          | (go_at_call 22; (with_reducible refine (CW.out _).mono ?_); rintro e w' ⟨rfl, rfl⟩))
      all_goals
        go_wp2
        go_ret
        exact ⟨rfl, below_drewN HB7.out _⟩

theorem walk (a0 : Option Addr) (len0 cap0 : Nat) (z0 : List Int) (a1 : Int) (a2 : Option Addr) (len2 cap2 : Nat) (z2 : List Int) (w : World) (w0 : IsRow .u8 w a0 len0 cap0 z0) (w1 : (Lit.int .i64 a1).wf = true) (w2 : IsRow .i64 w a2 len2 cap2 z2) :
    Calls Try.prog 8 #[.slice a0 len0 cap0, .int .i64 a1, .slice a2 len2 cap2] w fun e w' => e = .returned (.bool true) ∧ Below w.heap.size w w' := by
  by_cases h : 300 < len0 ∨ 100 < len2
  · exact walk_long _ _ _ _ _ _ _ w h
  · obtain ⟨M, hM⟩ := Int.eq_ofNat_of_zero_le (Int.emod_nonneg a1 (show (50 : Int) ≠ 0 by omega))
    have hrow := w0.row
    rcases Nat.eq_zero_or_pos len0 with h0 | h0
    · subst h0
      exact walk_zero a0 cap0 _ a1 a2 len2 cap2 _ M w hrow w2.row (fun k hk => bounds_i64 (w2.wf k hk)) (bounds_i64 w1) hM (by omega)
    · obtain ⟨b, off, rfl, _⟩ := hrow.2 h0
      exact walk_some b off len0 cap0 _ a1 a2 len2 cap2 _ M w hrow w0.cap h0 (by omega) w2.row (fun k hk => bounds_i64 (w2.wf k hk)) (bounds_i64 w1) hM (by omega)

/-! ### THE ROW's STEP: WRITTEN OUT: LEAVE IT -/
set_option maxRecDepth 100000 in
theorem lifted (os : Os) (started : os.Started) (H : Type) (enc : TypeId × Value → H) :
    ReturnsInHanded {} Try.checked os 8 .any (Rows.ringOrderSpec.pre6 enc Try.prog Try.f8 Rows.ringOrderRow.domain false) (Rows.ringOrderSpec.post enc Try.prog Try.f8 false true false false) := by
  refine returnsInHanded_of_change (C := Try.checked) own started (by kernel_rfl) Try.func8
    (ChangeSpec.witness6 (enc := enc) (C := Try.checked) false ⟨#[], #[.slice none 0 0, .int .i64 0, .slice none 0 0], []⟩ 8 (by kernel_rfl) (by kernel_rfl) (by kernel_rfl) (by kernel_rfl)) ?_
  intro W base args ds gs before hval0 hW hcnd _
  have hval : ∀ (j : Nat) t v, Try.f8.params[j]? = some t → args[j]? = some v → Value.okWide Try.prog W .any base t v := hval0
  have hW' := hW
  obtain ⟨p, q, hA0, hV, rfl, hfz, hnd⟩ := hW
  have hA : DataW.TrodAll enc Try.prog W 0 (fun _ => true) true Try.f8.params.toList args.toList ds p := hA0
  rw [Try.params8] at hA hval
  obtain ⟨v0, vs0, d0, ds0, p0, q0, hargs, rfl, rfl, h0, r0⟩ := trodAll_cons hA
  obtain ⟨v1, vs1, d1, ds1, p1, q1, rfl, rfl, rfl, h1, r1⟩ := trodAll_cons r0
  obtain ⟨v2, vs2, d2, ds2, p2, q2, rfl, rfl, rfl, h2, r2⟩ := trodAll_cons r1
  obtain ⟨rfl, rfl, rfl⟩ := trodAll_nil r2
  obtain rfl : args = #[v0, v1, v2] := by cases args; simp_all
  obtain ⟨rfl, rfl⟩ := trodVars_none hV
  obtain ⟨a0, len0, cap0, rfl⟩ := okWide_slice Try.underlying33 (hval 0 33 v0 rfl rfl)
  have k0 := h0
  have lt0 : ∀ x ∈ p0, x.block < W.heap.size := by obtain ⟨m, hm⟩ := k0; exact DataW.trod_lt m _ _ _ hm
  obtain ⟨z0, w0⟩ : ∃ zs, IsRow .u8 W a0 len0 cap0 zs := by
    obtain ⟨fuel, hf⟩ := h0
    rcases open_ints Try.underlying33 Try.underlying5 (by kernel_rfl) hf with ⟨hcs, _⟩ | ⟨x, l, c, zs, hcs, _, hl, hm, hz, _, hcell, hwz⟩
    · simp [Value.cells] at hcs
      obtain ⟨rfl, rfl, rfl⟩ := hcs
      exact ⟨[], .inl ⟨rfl, rfl, rfl, rfl⟩⟩
    · simp [Value.cells] at hcs
      obtain ⟨rfl, rfl, rfl⟩ := hcs
      exact ⟨zs, .inr ⟨_, rfl, hl, hm, by simpa using hz, hcell, hwz⟩⟩
  obtain ⟨a1, rfl, rfl, rfl, w1⟩ := open_int Try.underlying3 (hval 1 3 v1 rfl rfl) h1
  obtain ⟨a2, len2, cap2, rfl⟩ := okWide_slice Try.underlying49 (hval 2 49 v2 rfl rfl)
  have k2 := h2
  have lt2 : ∀ x ∈ p2, x.block < W.heap.size := by obtain ⟨m, hm⟩ := k2; exact DataW.trod_lt m _ _ _ hm
  obtain ⟨z2, w2⟩ : ∃ zs, IsRow .i64 W a2 len2 cap2 zs := by
    obtain ⟨fuel, hf⟩ := h2
    rcases open_ints Try.underlying49 Try.underlying3 (by kernel_rfl) hf with ⟨hcs, _⟩ | ⟨x, l, c, zs, hcs, _, hl, hm, hz, _, hcell, hwz⟩
    · simp [Value.cells] at hcs
      obtain ⟨rfl, rfl, rfl⟩ := hcs
      exact ⟨[], .inl ⟨rfl, rfl, rfl, rfl⟩⟩
    · simp [Value.cells] at hcs
      obtain ⟨rfl, rfl, rfl⟩ := hcs
      exact ⟨zs, .inr ⟨_, rfl, hl, hm, by simpa using hz, hcell, hwz⟩⟩
  clear hA0 hval0
  refine (walk a0 len0 cap0 z0 a1 a2 len2 cap2 z2 W w0 w1 w2).mono fun e W' ⟨he, bel⟩ => ?_
  subst he
  exact ⟨_, rfl, _, _, _, [], _, [], hW', trodAll_mk1 (shut_bool Try.underlying4 _), (trodAll_cons_mk (Below.trod laidOut (by kernel_rfl) (of_decide_eq_true (by kernel_rfl)) k0 bel lt0) (trodAll_cons_mk (shut_int Try.underlying3 w1) (trodAll_cons_mk (Below.trod laidOut (by kernel_rfl) (of_decide_eq_true (by kernel_rfl)) k2 bel lt2) trodAll_mk0))), rfl, bel.frame _, fun h => by cases h⟩

theorem over : Rows.ringOrderRow.holds Try.pinned (OpenSpec.ofChange Rows.ringOrderSpec) :=
  OpenClaim.holds_of_wide 8 Try.f8 rfl rfl rfl rfl rfl rfl rfl ⟨rfl, rfl, rfl, rfl, rfl⟩ rfl rfl rfl rfl rfl (by kernel_rfl) Try.func8 (by kernel_rfl)
    (of_decide_eq_true (by kernel_rfl)) (by unfold Func.isWrapper; first | (rw [if_pos (by decide +kernel)]; kernel_rfl) | (rw [if_neg (by decide +kernel)]; exact ⟨rfl, rfl⟩))
    (fun os started H enc _ => lifted os started H enc)

/-- ████ THE STATEMENT ████ -/
theorem proved : Rows.RingOrderSaid := over
#print axioms proved
end Go.Proofs.Ytcmnhpogepahgaa.ringOrder

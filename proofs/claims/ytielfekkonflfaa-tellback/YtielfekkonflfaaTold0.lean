/- The document's told: replies of 43. No statement is proved here. -/
import Derived.Test.YtielfekkonflfaaJTellBack5
import Derived.Deep.CutBlock
import Derived.Deep.RegionLaw
import Derived.Deep.RegionHeld3
import Derived.Deep.CutRange
namespace Go.Proofs.Ytielfekkonflfaa
open Go.ChangeShapes Go.WideShapes Go.ChangeAt Go.RowKit
set_option linter.unusedVariables false
set_option linter.unusedSimpArgs false

set_option maxRecDepth 100000 in
set_option maxHeartbeats 4000000 in
theorem told_yes0 (b off n c : Nat) (zs : List Int) (z1 z2 z3 z4 z5 : Int) (N : Nat) (mo : Bool) (w : World) (hr : Row .u8 w w.heap.size (some ⟨b, off, none⟩) n zs) (hx : Bytes8 zs) (hn : n ≤ 1000) (h1n : 1 ≤ n) (h0 : zs.getD 0 0 = 43) (hc : n ≤ c) (h7 : 7 ≤ n) (hy1 : zs.getD 1 0 = z1) (hy2 : zs.getD 2 0 = z2) (hy3 : zs.getD 3 0 = z3) (hy4 : zs.getD 4 0 = z4) (hy5 : zs.getD 5 0 = z5) (hy6 : zs.getD 6 0 = (N : Int)) (hyes : (z1 != 14) = false) (h40 : (z4 != 0) = false) (h45 : (z4 == 255) = mo) :
    Calls Try.prog 64 #[.slice (some ⟨b, off, none⟩) n c] w fun e w' => ToldGot z2 z3 z5 mo N zs w e w' := by
  obtain ⟨b', off', e1, hb, hcell⟩ := hr.2 (by omega)
  injection e1 with e1
  injection e1 with e1 e2
  subst e1 e2
  obtain ⟨hkw1, hkw, hg4, hg2⟩ := box2 w 28 [.int .i64 0, .int .i64 0, .slice none 0 0, .slice none 0 0, .int .i64 0, .int .i64 0, .int .u16 0, .int .u16 0, .int .u16 0, .int .i64 0, .int .i64 0, .bool false, .int .i64 0, .slice none 0 0] [.int .i64 43, .int .i64 0, .slice none 0 0, .slice none 0 0, .int .i64 0, .int .i64 0, .int .u16 0, .int .u16 0, .int .u16 0, .int .i64 0, .int .i64 0, .bool false, .int .i64 0, .slice none 0 0]
  have HCE := Lib.hid (fun X (hX : Below w.heap.size w X) j (hj : j < n) => (hX.cell (p := ⟨b, off + j, none⟩) hb).trans (hcell j hj))
  have HRG := Lib.hid (fun X (hX : Below w.heap.size w X) => (hr.below hX).more hX.size)
  have HX := Lib.hid hx
  have HKW := Lib.hid hkw
  have HG4 := Lib.hid hg4
  have HG2 := Lib.hid hg2
  clear hg4 hg2
  have hn0 : (0 : Int) < (n : Int) := by omega
  have hl7 : ¬ (n : Int) < 7 := by omega
  have i1 : (1 : Int) < (n : Int) := by omega
  have j1 : 1 < n := by omega
  have i2 : (2 : Int) < (n : Int) := by omega
  have j2 : 2 < n := by omega
  have i3 : (3 : Int) < (n : Int) := by omega
  have j3 : 3 < n := by omega
  have i4 : (4 : Int) < (n : Int) := by omega
  have j4 : 4 < n := by omega
  have i5 : (5 : Int) < (n : Int) := by omega
  have j5 : 5 < n := by omega
  have i6 : (6 : Int) < (n : Int) := by omega
  have j6 : 6 < n := by omega
  have e2 : IntKind.i64.wrap z2 = z2 := IntWalk.i64_in _ (by have := hx.at_ 2; change 0 ≤ zs.getD 2 0 ∧ zs.getD 2 0 ≤ 255 at this; omega)
  have e3 : IntKind.i64.wrap z3 = z3 := IntWalk.i64_in _ (by have := hx.at_ 3; change 0 ≤ zs.getD 3 0 ∧ zs.getD 3 0 ≤ 255 at this; omega)
  have e5 : IntKind.i64.wrap z5 = z5 := IntWalk.i64_in _ (by have := hx.at_ 5; change 0 ≤ zs.getD 5 0 ∧ zs.getD 5 0 ≤ 255 at this; omega)
  have hN : N ≤ 255 := by have := hx.at_ 6; change 0 ≤ zs.getD 6 0 ∧ zs.getD 6 0 ≤ 255 at this; omega
  have e6 : IntKind.i64.wrap (N : Int) = (N : Int) := IntWalk.i64_in _ (by omega)
  have HLEN : Hid (zs.length = n) := hr.1
  have HC6 := Lib.hid (fun X (hX : Below w.heap.size w X) => (HCE.out X hX 6 (by omega)).trans (by rw [hy6]))
  have H0 := Lib.hid h0
  clear hr hcell hkw hkw1 h0
  go_enter Try.func64, Try.ntmps64
  go_upto_region 2 with fail
  obtain ⟨w3, hw3, G4, G2, GB⟩ := named0 HG4 HG2 HKW
  have hz3 : w.heap.size + 1 < w3.heap.size := G4.out.lt
  obtain ⟨hs0, hs1, hs2, hs3, hs4, hs5, hs6, hs7, hs8, hs9, hs10, hs11, hs12, hs13⟩ := cells14 G4.out
  obtain ⟨hp0, hp1, hp2, hp3, hp4, hp5, hp6, hp7, hp8, hp9, hp10, hp11, hp12, hp13⟩ := cells14 G2.out
  obtain ⟨hf0, hf1, hf2, hf3, hf4, hf5, hf6, hf7, hf8, hf9, hf10, hf11, hf12, hf13⟩ := frozen14 G4.out
  obtain ⟨hg0, hg1, hg2, hg3, hg4, hg5, hg6, hg7, hg8, hg9, hg10, hg11, hg12, hg13⟩ := frozen14 G2.out
  rw [hw3]
  clear hw3 HG4 HG2 HKW
  have cb1 : w3.cell? ⟨b, off + 1, none⟩ = some (.int .u8 z1) := (HCE.out w3 GB.out 1 (by omega)).trans (by rw [hy1])
  have cb2 : w3.cell? ⟨b, off + 2, none⟩ = some (.int .u8 z2) := (HCE.out w3 GB.out 2 (by omega)).trans (by rw [hy2])
  have cb3 : w3.cell? ⟨b, off + 3, none⟩ = some (.int .u8 z3) := (HCE.out w3 GB.out 3 (by omega)).trans (by rw [hy3])
  have cb4 : w3.cell? ⟨b, off + 4, none⟩ = some (.int .u8 z4) := (HCE.out w3 GB.out 4 (by omega)).trans (by rw [hy4])
  have cb5 : w3.cell? ⟨b, off + 5, none⟩ = some (.int .u8 z5) := (HCE.out w3 GB.out 5 (by omega)).trans (by rw [hy5])
  go_upto_region 4 with fail
  go_cut [] from 31 to 50 (fun wx => Hid (WholeV wx (w.heap.size + 1) 28 [.int .i64 43, .int .i64 0, .slice none 0 0, .slice none 0 0, .int .i64 0, .int .i64 0, .int .u16 0, .int .u16 0, .int .u16 0, .int .i64 z2, .int .i64 z3, .bool mo, .int .i64 z5, .slice none 0 0]) ∧ Hid (WholeV wx w.heap.size 28 [.int .i64 0, .int .i64 0, .slice none 0 0, .slice none 0 0, .int .i64 0, .int .i64 0, .int .u16 0, .int .u16 0, .int .u16 0, .int .i64 0, .int .i64 0, .bool false, .int .i64 0, .slice none 0 0]) ∧ Hid (Below w.heap.size w wx))
  case first =>
    have KS : Hid (∀ X, Below w.heap.size w X → X.cell? ⟨b, off + 2, none⟩ = some (.int .u8 z2) ∧ X.cell? ⟨b, off + 3, none⟩ = some (.int .u8 z3) ∧ X.cell? ⟨b, off + 4, none⟩ = some (.int .u8 z4) ∧ X.cell? ⟨b, off + 5, none⟩ = some (.int .u8 z5) ∧ Below w.heap.size w X) := fun X hX => ⟨(HCE.out X hX 2 (by omega)).trans (by rw [hy2]), (HCE.out X hX 3 (by omega)).trans (by rw [hy3]), (HCE.out X hX 4 (by omega)).trans (by rw [hy4]), (HCE.out X hX 5 (by omega)).trans (by rw [hy5]), hX⟩
    clear cb1 cb2 cb3 cb4 cb5 hy1 hy2 hy3 hy4 hy5 hy6
    go_region_held3 (fun X => X.cell? ⟨b, off + 2, none⟩ = some (.int .u8 z2) ∧ X.cell? ⟨b, off + 3, none⟩ = some (.int .u8 z3) ∧ X.cell? ⟨b, off + 4, none⟩ = some (.int .u8 z4) ∧ X.cell? ⟨b, off + 5, none⟩ = some (.int .u8 z5) ∧ Below w.heap.size w X)
      (first
        | exact KS.out _ GB.out.drew
        | exact KS.out _ (GB.out.drew.setCell (Nat.le_succ _) _)
        | exact KS.out _ ((GB.out.drew.setCell (Nat.le_succ _) _).setCell (Nat.le_succ _) _)
        | exact KS.out _ (((GB.out.drew.setCell (Nat.le_succ _) _).setCell (Nat.le_succ _) _).setCell (Nat.le_succ _) _)
        | exact KS.out _ ((((GB.out.drew.setCell (Nat.le_succ _) _).setCell (Nat.le_succ _) _).setCell (Nat.le_succ _) _).setCell (Nat.le_succ _) _))
      (fail)
    all_goals
      go_wp2_with fail
      go_meet
      exact four14 G4 G2 GB (show w.heap.size ≠ w.heap.size + 1 by omega) (Nat.le_succ _) _ _ _ _ _ _ _ _
  case rest =>
    obtain ⟨K4, K2, KB⟩ := hcut
    clear cb1 cb2 cb3 cb4 cb5 G4 G2 GB hy1 hy2 hy3 hy4 hy5
    go_wp2_with fail
    obtain ⟨wo, hwo⟩ : ∃ wo, wo = wc := ⟨_, rfl⟩
    subst hwo
    go_loopw [5, 6] (fun a i wr => ∃ (k t oc : Nat) (OA : Option Addr) (os : List Ob), k ≤ N ∧ t ≤ n ∧ a = .int .i64 (t : Int) ∧ i = .int .i64 (k : Int) ∧ Hid (WholeV wr (w.heap.size + 1) 28 [.int .i64 43, .int .i64 0, .slice none 0 0, .slice none 0 0, .int .i64 0, .int .i64 0, .int .u16 0, .int .u16 0, .int .u16 0, .int .i64 z2, .int .i64 z3, .bool mo, .int .i64 z5, .slice OA k oc]) ∧ Hid (WholeV wr w.heap.size 28 [.int .i64 0, .int .i64 0, .slice none 0 0, .slice none 0 0, .int .i64 0, .int .i64 0, .int .u16 0, .int .u16 0, .int .u16 0, .int .i64 0, .int .i64 0, .bool false, .int .i64 0, .slice none 0 0]) ∧ Hid (wr.ownsRow (w.heap.size + 2) 57 2 (.slice OA k oc) k (obs os)) ∧ os.length = k ∧ Hid (parseO N (zs.drop 7) = (parseO (N - k) (zs.drop t)).map (os ++ ·)) ∧ Hid (Below w.heap.size w wr)) (fun _ i _ => N - (intOf i).toNat)
    case atStart => exact ⟨0, 7, 0, none, [], by omega, h7, rfl, rfl, K4, K2, own2_none _ _ _, rfl, Lib.hid (by simp), KB⟩
    case round =>
      obtain ⟨k, t, oc, OA, os, hk, ht, rfl, rfl, H4, H2, HO, hol, HQ, HB⟩ := hrel
      have hc6 : wr.cell? ⟨b, off + 6, none⟩ = some (.int .u8 (N : Int)) := HC6.out wr HB.out
      obtain ⟨ks0, ks1, ks2, ks3, ks4, ks5, ks6, ks7, ks8, ks9, ks10, ks11, ks12, ks13⟩ := cells14 H4.out
      obtain ⟨kp0, kp1, kp2, kp3, kp4, kp5, kp6, kp7, kp8, kp9, kp10, kp11, kp12, kp13⟩ := cells14 H2.out
      have hzr : w.heap.size + 1 < wr.heap.size := H4.out.lt
      obtain ⟨kf0, kf1, kf2, kf3, kf4, kf5, kf6, kf7, kf8, kf9, kf10, kf11, kf12, kf13⟩ := frozen14 H4.out
      obtain ⟨kg0, kg1, kg2, kg3, kg4, kg5, kg6, kg7, kg8, kg9, kg10, kg11, kg12, kg13⟩ := frozen14 H2.out
      by_cases hlt : k < N
      · have hki : (k : Int) < (N : Int) := by omega
        obtain ⟨R, hR⟩ : ∃ R, N - k = R + 1 := ⟨N - k - 1, by omega⟩
        have hld : (zs.drop t).length = n - t := by rw [List.length_drop]; have := HLEN.out; omega
        by_cases h2 : n < t + 2
        · have h2i : (n : Int) < (t : Int) + 2 := by omega
          have HF : Hid (parseO N (zs.drop 7) = none) := by
            show _ = _
            rw [HQ.out, hR]
            unfold parseO
            rw [if_pos (by omega)]
            rfl
          clear hR hld
          go_wp2_with fail
          obtain ⟨X, hX⟩ : ∃ X, wr = X := ⟨_, rfl⟩
          have hx0 := H2.out
          have hxb := HB.out
          rw [hX] at hx0 hxb
          rw [hX]
          exact end14 Try.results64 hx0 rfl hxb (Nat.le_refl _) rfl rfl fun w9 hbb hk => ⟨OA, k, oc, false, rfl, hbb, fun os h => (by rw [HF.out] at h; cases h), fun _ => rfl⟩
        · have h2i : ¬ (n : Int) < (t : Int) + 2 := by omega
          obtain ⟨L, hL⟩ : ∃ L : Nat, zs.getD (t + 1) 0 = (L : Int) := Int.eq_ofNat_of_zero_le (hx.at_ (t + 1)).1
          have hL255 : L ≤ 255 := by have := (hx.at_ (t + 1)).2; change zs.getD (t + 1) 0 ≤ 255 at this; omega
          have hct1 : wr.cell? ⟨b, off + (t + 1), none⟩ = some (.int .u8 (L : Int)) := (HCE.out wr HB.out (t + 1) (by omega)).trans (by rw [hL])
          have eL : IntKind.i64.wrap (L : Int) = (L : Int) := IntWalk.i64_in _ (by omega)
          have hti : (t : Int) + 1 < (n : Int) := by omega
          have hd1 : (zs.drop t).getD 1 0 = (L : Int) := by rw [← hL]; simp [List.getD_eq_getElem?_getD, List.getElem?_drop]
          by_cases h3 : n < t + 2 + L
          · have h3i : (n : Int) < (t : Int) + 2 + (L : Int) := by omega
            have HF : Hid (parseO N (zs.drop 7) = none) := by
              show _ = _
              rw [HQ.out, hR]
              unfold parseO
              rw [if_neg (by omega), hd1, if_pos (by rw [Int.toNat_natCast]; omega)]
              rfl
            clear hR hld hd1 hL
            go_wp2_with fail
            obtain ⟨X, hX⟩ : ∃ X, wr = X := ⟨_, rfl⟩
            have hx0 := H2.out
            have hxb := HB.out
            rw [hX] at hx0 hxb
            rw [hX]
            exact end14 Try.results64 hx0 rfl hxb (Nat.le_refl _) rfl rfl fun w9 hbb hk => ⟨OA, k, oc, false, rfl, hbb, fun os h => (by rw [HF.out] at h; cases h), fun _ => rfl⟩
          · have h3i : ¬ (n : Int) < (t : Int) + 2 + (L : Int) := by omega
            obtain ⟨x, hx0⟩ : ∃ x, zs.getD t 0 = x := ⟨_, rfl⟩
            have hct0 : wr.cell? ⟨b, off + t, none⟩ = some (.int .u8 x) := (HCE.out wr HB.out t (by omega)).trans (by rw [hx0])
            have e0 := hx.at_ t
            change 0 ≤ zs.getD t 0 ∧ zs.getD t 0 ≤ 255 at e0
            rw [hx0] at e0
            have wx : IntKind.i64.wrap x = x := IntWalk.i64_in _ (by omega)
            obtain ⟨P, hP⟩ : ∃ P, t + 2 = P := ⟨_, rfl⟩
            obtain ⟨Q, hQ⟩ : ∃ Q, P + L = Q := ⟨_, rfl⟩
            obtain ⟨S, hS⟩ : ∃ S, strOfNums ((zs.drop P).take L) = S := ⟨_, rfl⟩
            have hPi : (t : Int) + 2 = (P : Int) := by omega
            have hQi : (P : Int) + (L : Int) = (Q : Int) := by omega
            have HEQ : Hid (parseO N (zs.drop 7) = (parseO R (zs.drop Q)).map ((os ++ [(x, S)]) ++ ·)) := by
              show _ = _
              rw [HQ.out, hR]
              conv => lhs; unfold parseO
              rw [if_neg (by omega), hd1, if_neg (by rw [Int.toNat_natCast]; omega), show (zs.drop t).getD 0 0 = x by rw [← hx0]; simp [List.getD_eq_getElem?_getD, List.getElem?_drop], Option.map_map, Int.toNat_natCast, List.drop_drop, List.drop_drop, show t + (2 + L) = Q by omega, hP, hS]
              congr 1
              funext zz
              simp
            have hrow2 : Row .u8 wr wr.heap.size (some ⟨b, off + P, none⟩) L ((zs.drop P).take L) := rowI_take (rowI_drop (HRG.out wr HB.out) P (by omega)) L (by omega)
            have hLQ : L = Q - P := by omega
            have hst : ∀ (B : Option Addr) (dd : Nat), Row .u8 wr wr.heap.size B L ((zs.drop P).take L) → (convert 30 9 (.slice B (Q - P) dd)).run Try.prog wr = .ok (.string S) wr := by
              intro B dd h
              rw [← hLQ, ← hS]
              exact conv_row _ _ _ _ _ h
            have hst' : ∀ (B : Option Addr) (dd : Nat), Row .u8 wr wr.heap.size B L ((zs.drop P).take L) → (convert 30 9 (.slice B (Q - P) dd)).run Try.prog wr.drew = .ok (.string S) wr.drew := by
              intro B dd h
              rw [← hLQ, ← hS]
              exact conv_row _ _ _ _ wr.drew h
            have OA1 : Hid ((wr.alloc (.cells #[.int .i64 x, .string S] 57)).drew.ownsRow (w.heap.size + 2) 57 2 (.slice OA k oc) k (obs os)) := own2_keep HO.out ((Below.refl _ _).alloc (Nat.le_refl _) _).drew
            have RA1 : Hid (OL (wr.alloc (.cells #[.int .i64 x, .string S] 57)).drew (wr.alloc (.cells #[.int .i64 x, .string S] 57)).drew.heap.size (some ⟨wr.heap.size, 0, none⟩) 1 [(x, S)]) := built_row wr _ [.int .i64 x, .string S] _ (Below.refl _ _).drew
            have KA1 : Hid (Below w.heap.size w (wr.alloc (.cells #[.int .i64 x, .string S] 57)).drew) := (HB.out.alloc HB.out.size _).drew
            have KW1 : Hid (Below (w.heap.size + 2) wr (wr.alloc (.cells #[.int .i64 x, .string S] 57)).drew) := ((Below.refl _ _).alloc (by omega) _).drew
            have HSZ1 : Hid (w.heap.size + 2 ≤ (wr.alloc (.cells #[.int .i64 x, .string S] 57)).drew.heap.size) := by have := KW1.out.size; show _ ≤ _; omega
            have HOL := Lib.hid hol
            have HRR := Lib.hid hR
            have HPQ := Lib.hid (show P ≤ Q ∧ Q ≤ n ∧ n ≤ c ∧ Q = t + 2 + L by omega)
            have hti0 : (t : Int) < (n : Int) := by omega
            have htn : t < n := by omega
            have htn1 : t + 1 < n := by omega
            have h2p : ¬ (n : Int) < (P : Int) := by omega
            have h3p : ¬ (n : Int) < (Q : Int) := by omega
            have hPQ : (P : Int) ≤ (Q : Int) := by omega
            have hQc : (Q : Int) ≤ (c : Int) := by omega
            have hPQn : P ≤ Q := by omega
            have hQcn : Q ≤ c := by omega
            have hk255 : k ≤ 255 := by omega
            have hQ1000 : Q ≤ 1000 := by omega
            have hL0 : (0 : Int) ≤ (L : Int) := by omega
            have wP : IntKind.i64.wrap (P : Int) = (P : Int) := IntWalk.i64_in _ (by omega)
            have wQ : IntKind.i64.wrap (Q : Int) = (Q : Int) := IntWalk.i64_in _ (by omega)
            have hmx : max (Q : Int) 0 = (Q : Int) := by omega
            have hP0 : (0 : Int) ≤ (P : Int) := by omega
            have hQ0 : (0 : Int) ≤ (Q : Int) := by omega
            by_cases hcP : c = P
            · subst hcP
              have hst0 : ∀ W, (convert 30 9 (.slice (some ⟨b, off, none⟩) 0 0)).run Try.prog W = .ok (.string S) W := by
                intro W
                rw [← hS, show L = 0 by omega, List.take_zero]
                exact conv_row _ _ _ _ W (Row.nil _ _ _ _)
              clear hR hld hd1 hL hst hst' hrow2 hS hx0 hLQ hP hQ e0 h2i h3i
              go_upto_region 12 with fail
              go_region_law (first
                | (refine step_append_obs (.tmp 86) (.tmp 102) (w.heap.size + 2) (.slice OA k oc) k os 1 [(x, S)] (k + 1) (os ++ [(x, S)]) rfl rfl (by omega) ⟨rfl, rfl, (by first | rfl | (simp [eval_put_tmp, size_put]; done) | (simp [eval_put_tmp, size_put]; simp [Act.eval]; done) | (simp [Act.eval]; done))⟩ OA1.out ⟨some ⟨wr.heap.size, 0, none⟩, 1, (by first | rfl | (simp [eval_put_tmp, size_put]; done) | (simp [eval_put_tmp, size_put]; simp [Act.eval]; done) | (simp [Act.eval]; done)), RA1.out⟩ HSZ1.out ?_
                   intro A6 c6 w6 hown6 hg6
                   have HO6 := Lib.hid hown6
                   have HBW6 := below_append2 KW1.out OA1.out hg6 HSZ1.out
                   have HB6 := Lib.hid (below_append2 KA1.out (own2_mono OA1.out (Nat.le_add_right _ 2)) hg6 KA1.out.size)
                   have hh6 := H4.out.below HBW6 (by omega)
                   have HL6 := Lib.hid (H2.out.below HBW6 (by omega))
                   have hq13 : w6.cell? ⟨w.heap.size + 1, 13, none⟩ = some (.slice OA k oc) := hh6.cell 13
                   have hqf13 : w6.frozen? ⟨w.heap.size + 1, 13, none⟩ = false := hh6.frozen 13
                   have HH6 := Lib.hid hh6
                   clear hown6 hg6 hh6 HBW6))
              all_goals
                go_wp2_with fail
                go_roundw
                case rel =>
                  refine ⟨k + 1, Q, c6, A6, os ++ [(x, S)], by omega, by have := HPQ.out; omega, by first | rfl | go_num, by go_num, HH6.out.set 13 (.slice A6 (k + 1) c6), whole_far HL6.out (show w.heap.size ≠ w.heap.size + 1 by omega) 13 (.slice A6 (k + 1) c6), own2_lo HO6.out ⟨w.heap.size + 1, 13, none⟩ (show w.heap.size + 1 < w.heap.size + 2 by omega) _, by rw [List.length_append, HOL.out]; rfl, ?_, Below.setCell HB6.out (p := ⟨w.heap.size + 1, 13, none⟩) (Nat.le_succ _) _⟩
                  rw [show N - (k + 1) = R by have := HRR.out; omega]
                  exact HEQ.out
                case measure => simp [intOf]; omega
            · have hst1 := hst _ (c - P) hrow2
              have hst2 := hst' _ (c - P) hrow2
              clear hR hld hd1 hL hst hst' hrow2 hS hx0 hLQ hP hQ e0 h2i h3i
              go_upto_region 12 with fail
              go_region_law (first
                | (refine step_append_obs (.tmp 86) (.tmp 102) (w.heap.size + 2) (.slice OA k oc) k os 1 [(x, S)] (k + 1) (os ++ [(x, S)]) rfl rfl (by omega) ⟨rfl, rfl, (by first | rfl | (simp [eval_put_tmp, size_put]; done) | (simp [eval_put_tmp, size_put]; simp [Act.eval]; done) | (simp [Act.eval]; done))⟩ OA1.out ⟨some ⟨wr.heap.size, 0, none⟩, 1, (by first | rfl | (simp [eval_put_tmp, size_put]; done) | (simp [eval_put_tmp, size_put]; simp [Act.eval]; done) | (simp [Act.eval]; done)), RA1.out⟩ HSZ1.out ?_
                   intro A6 c6 w6 hown6 hg6
                   have HO6 := Lib.hid hown6
                   have HBW6 := below_append2 KW1.out OA1.out hg6 HSZ1.out
                   have HB6 := Lib.hid (below_append2 KA1.out (own2_mono OA1.out (Nat.le_add_right _ 2)) hg6 KA1.out.size)
                   have hh6 := H4.out.below HBW6 (by omega)
                   have HL6 := Lib.hid (H2.out.below HBW6 (by omega))
                   have hq13 : w6.cell? ⟨w.heap.size + 1, 13, none⟩ = some (.slice OA k oc) := hh6.cell 13
                   have hqf13 : w6.frozen? ⟨w.heap.size + 1, 13, none⟩ = false := hh6.frozen 13
                   have HH6 := Lib.hid hh6
                   clear hown6 hg6 hh6 HBW6))
              all_goals
                go_wp2_with fail
                go_roundw
                case rel =>
                  refine ⟨k + 1, Q, c6, A6, os ++ [(x, S)], by omega, by have := HPQ.out; omega, by first | rfl | go_num, by go_num, HH6.out.set 13 (.slice A6 (k + 1) c6), whole_far HL6.out (show w.heap.size ≠ w.heap.size + 1 by omega) 13 (.slice A6 (k + 1) c6), own2_lo HO6.out ⟨w.heap.size + 1, 13, none⟩ (show w.heap.size + 1 < w.heap.size + 2 by omega) _, by rw [List.length_append, HOL.out]; rfl, ?_, Below.setCell HB6.out (p := ⟨w.heap.size + 1, 13, none⟩) (Nat.le_succ _) _⟩
                  rw [show N - (k + 1) = R by have := HRR.out; omega]
                  exact HEQ.out
                case measure => simp [intOf]; omega
      · obtain rfl : N = k := by omega
        have hki : ¬ (N : Int) < (N : Int) := by omega
        by_cases htn : t = n
        · have htb : ((t : Int) == (n : Int)) = true := beq_iff_eq.2 (by omega)
          have HF : Hid (parseO N (zs.drop 7) = some os) := by
            show _ = _
            rw [HQ.out, Nat.sub_self]
            unfold parseO
            rw [if_pos (by rw [List.length_drop]; have := HLEN.out; omega)]
            simp
          clear hlt
          go_wp2_with fail
          obtain ⟨X, hX⟩ : ∃ X, wr = X := ⟨_, rfl⟩
          have hx0 := H2.out
          have hxb := HB.out
          have hox := HO.out
          rw [hX] at hx0 hxb hox
          rw [hX]
          exact end14 Try.results64 hx0 rfl hxb (Nat.le_refl _) rfl rfl fun w9 hbb hk => ⟨OA, N, oc, true, rfl, hbb, fun os2 h => (by rw [HF.out] at h; injection h with h; subst h; exact ⟨rfl, hol.symm, (own_blk hox hk (show w.heap.size < w.heap.size + 2 by omega))⟩), fun h => (by rw [HF.out] at h; cases h)⟩
        · have htb : ((t : Int) == (n : Int)) = false := beq_eq_false_iff_ne.2 (by omega)
          have HF : Hid (parseO N (zs.drop 7) = none) := by
            show _ = _
            rw [HQ.out, Nat.sub_self]
            unfold parseO
            rw [if_neg (by rw [List.length_drop]; have := HLEN.out; omega)]
            rfl
          clear hlt
          go_wp2_with fail
          obtain ⟨X, hX⟩ : ∃ X, wr = X := ⟨_, rfl⟩
          have hx0 := H2.out
          have hxb := HB.out
          rw [hX] at hx0 hxb
          rw [hX]
          exact end14 Try.results64 hx0 rfl hxb (Nat.le_refl _) rfl rfl fun w9 hbb hk => ⟨OA, N, oc, false, rfl, hbb, fun os h => (by rw [HF.out] at h; cases h), fun _ => rfl⟩

end Go.Proofs.Ytielfekkonflfaa

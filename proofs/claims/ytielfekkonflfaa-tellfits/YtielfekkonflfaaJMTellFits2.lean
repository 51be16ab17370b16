/- Joined: PFl3 TBackf Awake6b. -/
import Derived.Test.YtielfekkonflfaaJTellBack5
import Derived.Test.YtielfekkonflfaaJTellBack2
import Derived.Deep.CutBlock
import Derived.Deep.RegionLaw
import Derived.Test.YtielfekkonflfaaJMTellFits1
import Derived.Test.YtielfekkonflfaaJTellBack7
import Derived.Test.YtielfekkonflfaaJTellBack14
namespace Go.Proofs.Ytielfekkonflfaa
open Go.ChangeShapes Go.WideShapes Go.ChangeAt Go.RowKit
set_option linter.unusedVariables false
set_option linter.unusedSimpArgs false

set_option maxRecDepth 100000 in
set_option maxHeartbeats 4000000 in
theorem pfl_w_yes_3 (b off n c : Nat) (zs : List Int) (m p q : Int) (t : Nat) (k : Nat) (w : World) (hr : Row .u8 w w.heap.size (some ⟨b, off, none⟩) n zs) (hx : Bytes8 zs) (hn : n ≤ 1000) (h0 : zs.getD 0 0 = 3) (hc : n ≤ c) (hc2 : c ≠ 2) (hp : gotW zs n 1 = p) (hq : gotW zs n 3 = q) (hu : zs.getD 1 0 = (t : Int)) (hnt : n = 2 + t) (hk2 : t = 2 * k) :
    Calls Try.prog 26 #[.slice (some ⟨b, off, none⟩) n c, .int .i64 m] w fun e w' => ∃ G g, e = .returned (.tuple #[.agg #[.int .i64 3, .int .i64 0, .slice none 0 0, .slice G k g, .int .i64 0, .int .i64 0, .int .u16 0, .int .u16 0, .int .u16 0, .int .i64 0, .int .i64 0, .bool false, .int .i64 0, .slice none 0 0], .bool true]) ∧ w'.ownsRow w.heap.size 25 1 (.slice G k g) k ((wordsAt (zs.drop 2) 0 k).map (Value.int .u16)) ∧ Below w.heap.size w w' := by
  have h2n : 2 ≤ n := by omega
  obtain ⟨lop, hip⟩ := gotW_bounds hx n 1
  rw [hp] at lop hip
  obtain ⟨loq, hiq⟩ := gotW_bounds hx n 3
  rw [hq] at loq hiq
  obtain ⟨b', off', e1, hb, hcell⟩ := hr.2 (by omega)
  injection e1 with e1
  injection e1 with e1 e2
  subst e1 e2
  obtain ⟨hkw1, hkw, hg4, hg2⟩ := box2 w 28 [.int .i64 0, .int .i64 0, .slice none 0 0, .slice none 0 0, .int .i64 0, .int .i64 0, .int .u16 0, .int .u16 0, .int .u16 0, .int .i64 0, .int .i64 0, .bool false, .int .i64 0, .slice none 0 0] [.int .i64 3, .int .i64 0, .slice none 0 0, .slice none 0 0, .int .i64 0, .int .i64 0, .int .u16 0, .int .u16 0, .int .u16 0, .int .i64 0, .int .i64 0, .bool false, .int .i64 0, .slice none 0 0]
  have HCE := Lib.hid (fun X (hX : Below w.heap.size w X) j (hj : j < n) => (hX.cell (p := ⟨b, off + j, none⟩) hb).trans (hcell j hj))
  have hc0 := HCE.out _ hkw1 0 (by omega)
  rw [Nat.add_zero, h0] at hc0
  have hc0b := HCE.out _ hkw 0 (by omega)
  rw [Nat.add_zero, h0] at hc0b
  have HRG := Lib.hid (fun X (hX : Below w.heap.size w X) => (hr.below hX).more hX.size)
  have HTL := Lib.hid (fun X (hX : Below w.heap.size w X) => (((hr.below hX).more hX.size : Row .u8 X X.heap.size (some ⟨b, off, none⟩) n zs)).tail (l := 2) (q := n - 2) (by omega))
  have HX := Lib.hid hx
  have HKW := Lib.hid hkw
  have HG4 := Lib.hid hg4
  have HG2 := Lib.hid hg2
  clear hg4 hg2
  have HSZ := Lib.hid (fun W (hW : Below w.heap.size w W) => show Calls Try.prog 51 #[.slice (some ⟨b, off, none⟩) n c] W (fun e w1 => e = .returned (.int .i64 (n : Int)) ∧ W = w1) from by have h := psz_list (some ⟨b, off, none⟩) n c zs W 3 (t : Int) (HRG.out W hW) hx hn (by omega) h0 (by omega) hu; rw [show (n : Int) = 2 + (t : Int) by omega]; exact h)
  have CN1 := Lib.hid (fun W (hW : Below w.heap.size w W) => pnumber_any (some ⟨b, off, none⟩) n c zs 1 p W hp (HRG.out W hW) hx (by omega))
  have CN3 := Lib.hid (fun W (hW : Below w.heap.size w W) => pnumber_any (some ⟨b, off, none⟩) n c zs 3 q W hq (HRG.out W hW) hx (by omega))
  have hn0 : (0 : Int) < (n : Int) := by omega
  have hn1 : (1 : Int) < (n : Int) := by omega
  have hl2 : ¬ (n : Int) < 2 := by omega
  have h2c : (2 : Int) ≤ (n : Int) := by omega
  have h2d : ¬ c = 2 := by omega
  have ea : bits .andNot .u8 3 128 = 3 := by rw [andNot128 _ (by omega) (by omega)]; omega
  have wp : IntKind.u16.wrap p = p := IntWalk.u16_in _ (by omega)
  have wq : IntKind.u16.wrap q = q := IntWalk.u16_in _ (by omega)
  have eb : bits .and .u8 3 128 = 0 := by rw [and128 _ (by omega) (by omega)]; omega
  have hn2t : n - 2 = t := by omega
  have HNT := Lib.hid hnt
  rw [hn2t] at HTL
  have hc1 := HCE.out
  clear hc1
  have CU := Lib.hid (fun (d : Nat) W (hW : Below w.heap.size w W) => (punpacked_yes (some ⟨b, off + 2, none⟩) k t d ((t : Int) / 2) (zs.drop 2) W hk2 (by omega) (HTL.out W hW) (hx.drop 2) (by omega)).mono fun e w' h => (show ∃ G g, e = .returned (.tuple #[.slice G k g, .bool true]) ∧ w'.ownsRow W.heap.size 25 1 (.slice G k g) k ((wordsAt (zs.drop 2) 0 k).map (Value.int .u16)) ∧ Below W.heap.size W w' from ⟨_, _, h.1, own_of_whole h.2.1 (Nat.le_refl _) (by rw [List.length_map, wordsAt_length]) (by omega), h.2.2⟩))
  have hc1t := fun X hX => (HCE.out X hX 1 (by omega)).trans (by rw [hu])
  have HC1 := Lib.hid hc1t
  have ht255 : t ≤ 255 := by have := (hx.at_ 1).2; change zs.getD 1 0 ≤ 255 at this; omega
  have wti : IntKind.i64.wrap (t : Int) = (t : Int) := IntWalk.i64_in _ (by omega)
  clear hc1t hnt hu hk2
  have HP := Lib.hid hp
  have HQ := Lib.hid hq
  have H0 := Lib.hid h0
  clear hr hx hcell hkw hkw1 hp hq h0
  go_enter Try.func26, Try.ntmps26
  go_upto_region 8 with (first
    | (go_at_call 51
       (with_reducible refine (HSZ.out _ ?_).mono ?_)
       · exact (Below.refl _ _).alloc (Nat.le_refl _) _
       rintro e w' ⟨rfl, rfl⟩)
    | (go_at_call 52
       (with_reducible refine (CN1.out _ ?_).mono ?_)
       · first | exact HKW.out | exact below_drewN HKW.out _
       rintro e w' ⟨rfl, d1, rfl⟩)
    | (go_at_call 52
       (with_reducible refine (CN3.out _ ?_).mono ?_)
       · first | exact HKW.out | exact below_drewN HKW.out _
       rintro e w' ⟨rfl, d3, rfl⟩))
  obtain ⟨w3, hw3, G4, G2, GB⟩ := named HG4 HG2 HKW (d1 + d3)
  have hz3 : w.heap.size + 1 < w3.heap.size := G4.out.lt
  obtain ⟨hs0, hs1, hs2, hs3, hs4, hs5, hs6, hs7, hs8, hs9, hs10, hs11, hs12, hs13⟩ := cells14 G4.out
  obtain ⟨hp0, hp1, hp2, hp3, hp4, hp5, hp6, hp7, hp8, hp9, hp10, hp11, hp12, hp13⟩ := cells14 G2.out
  obtain ⟨hf0, hf1, hf2, hf3, hf4, hf5, hf6, hf7, hf8, hf9, hf10, hf11, hf12, hf13⟩ := frozen14 G4.out
  obtain ⟨hg0, hg1, hg2, hg3, hg4, hg5, hg6, hg7, hg8, hg9, hg10, hg11, hg12, hg13⟩ := frozen14 G2.out
  rw [hw3]
  clear hw3 hc0 hc0b HSZ CN1 CN3
  have hcw : w3.cell? ⟨b, off + 1, none⟩ = some (.int .u8 (t : Int)) := HC1.out w3 GB.out
  go_upto_region 21 with fail
  go_region_law (first
    | (go_simp; go_at_call 54
       (with_reducible refine (CU.out _ _ ?_).mono ?_)
       · first | exact GB.out | exact GB.out.drew | exact below_drewN GB.out _
       rintro e w5 ⟨G, g, rfl, ho5, hb5⟩
       have hb5' : Below w3.heap.size w3 w5 := by first | exact hb5 | exact (Below.refl _ _).drew.trans hb5
       have h1 := G4.out.below hb5' G4.out.lt
       have h0' := G2.out.below hb5' G2.out.lt
       have HB5 : Hid (Below w.heap.size w w5) := GB.out.trans (hb5'.mono GB.out.size)
       have hz5 : w.heap.size + 1 < w5.heap.size := h1.lt
       obtain ⟨ks0, ks1, ks2, ks3, ks4, ks5, ks6, ks7, ks8, ks9, ks10, ks11, ks12, ks13⟩ := cells14 h1
       obtain ⟨kp0, kp1, kp2, kp3, kp4, kp5, kp6, kp7, kp8, kp9, kp10, kp11, kp12, kp13⟩ := cells14 h0'
       obtain ⟨kf0, kf1, kf2, kf3, kf4, kf5, kf6, kf7, kf8, kf9, kf10, kf11, kf12, kf13⟩ := frozen14 h1
       obtain ⟨kg0, kg1, kg2, kg3, kg4, kg5, kg6, kg7, kg8, kg9, kg10, kg11, kg12, kg13⟩ := frozen14 h0'
       have HH1 := Lib.hid h1
       have HH0 := Lib.hid h0'
       have HO5 : Hid (w5.ownsRow (w.heap.size + 2) 25 1 (.slice G k g) k ((wordsAt (zs.drop 2) 0 k).map (Value.int .u16))) := own_mono ho5 (show w.heap.size + 2 ≤ w3.heap.size by omega)
       clear h1 h0' hb5 hb5' ho5))
  all_goals
    go_wp2_with fail
    obtain ⟨X, hX⟩ : ∃ X, (w5.setCell ⟨w.heap.size + 1, 3, none⟩ (.slice G k g)) = X := ⟨_, rfl⟩
    have hx0 := (whole_far HH0.out (show w.heap.size ≠ w.heap.size + 1 by omega) 3 (.slice G k g))
    have hxb := (HB5.out.setCell (p := ⟨w.heap.size + 1, 3, none⟩) (Nat.le_succ _) (.slice G k g))
    have hox := (own_far HO5.out ⟨w.heap.size + 1, 3, none⟩ (show w.heap.size + 1 < w.heap.size + 2 by omega) (.slice G k g))
    rw [hX] at hx0 hxb hox
    rw [hX]
    exact end14 Try.results26 hx0 rfl hxb (Nat.le_refl _) rfl rfl fun w9 hbb hk => ⟨_, _, rfl, own_mono (own_blk hox hk (show w.heap.size < w.heap.size + 2 by omega)) (by omega), hbb⟩

set_option maxRecDepth 100000 in
set_option maxHeartbeats 4000000 in
theorem pfl_w_yes_4 (b off n c : Nat) (zs : List Int) (m p q : Int) (t : Nat) (k : Nat) (w : World) (hr : Row .u8 w w.heap.size (some ⟨b, off, none⟩) n zs) (hx : Bytes8 zs) (hn : n ≤ 1000) (h0 : zs.getD 0 0 = 4) (hc : n ≤ c) (hc2 : c ≠ 2) (hp : gotW zs n 1 = p) (hq : gotW zs n 3 = q) (hu : zs.getD 1 0 = (t : Int)) (hnt : n = 2 + t) (hk2 : t = 2 * k) :
    Calls Try.prog 26 #[.slice (some ⟨b, off, none⟩) n c, .int .i64 m] w fun e w' => ∃ G g, e = .returned (.tuple #[.agg #[.int .i64 4, .int .i64 0, .slice none 0 0, .slice G k g, .int .i64 0, .int .i64 0, .int .u16 0, .int .u16 0, .int .u16 0, .int .i64 0, .int .i64 0, .bool false, .int .i64 0, .slice none 0 0], .bool true]) ∧ w'.ownsRow w.heap.size 25 1 (.slice G k g) k ((wordsAt (zs.drop 2) 0 k).map (Value.int .u16)) ∧ Below w.heap.size w w' := by
  have h2n : 2 ≤ n := by omega
  obtain ⟨lop, hip⟩ := gotW_bounds hx n 1
  rw [hp] at lop hip
  obtain ⟨loq, hiq⟩ := gotW_bounds hx n 3
  rw [hq] at loq hiq
  obtain ⟨b', off', e1, hb, hcell⟩ := hr.2 (by omega)
  injection e1 with e1
  injection e1 with e1 e2
  subst e1 e2
  obtain ⟨hkw1, hkw, hg4, hg2⟩ := box2 w 28 [.int .i64 0, .int .i64 0, .slice none 0 0, .slice none 0 0, .int .i64 0, .int .i64 0, .int .u16 0, .int .u16 0, .int .u16 0, .int .i64 0, .int .i64 0, .bool false, .int .i64 0, .slice none 0 0] [.int .i64 4, .int .i64 0, .slice none 0 0, .slice none 0 0, .int .i64 0, .int .i64 0, .int .u16 0, .int .u16 0, .int .u16 0, .int .i64 0, .int .i64 0, .bool false, .int .i64 0, .slice none 0 0]
  have HCE := Lib.hid (fun X (hX : Below w.heap.size w X) j (hj : j < n) => (hX.cell (p := ⟨b, off + j, none⟩) hb).trans (hcell j hj))
  have hc0 := HCE.out _ hkw1 0 (by omega)
  rw [Nat.add_zero, h0] at hc0
  have hc0b := HCE.out _ hkw 0 (by omega)
  rw [Nat.add_zero, h0] at hc0b
  have HRG := Lib.hid (fun X (hX : Below w.heap.size w X) => (hr.below hX).more hX.size)
  have HTL := Lib.hid (fun X (hX : Below w.heap.size w X) => (((hr.below hX).more hX.size : Row .u8 X X.heap.size (some ⟨b, off, none⟩) n zs)).tail (l := 2) (q := n - 2) (by omega))
  have HX := Lib.hid hx
  have HKW := Lib.hid hkw
  have HG4 := Lib.hid hg4
  have HG2 := Lib.hid hg2
  clear hg4 hg2
  have HSZ := Lib.hid (fun W (hW : Below w.heap.size w W) => show Calls Try.prog 51 #[.slice (some ⟨b, off, none⟩) n c] W (fun e w1 => e = .returned (.int .i64 (n : Int)) ∧ W = w1) from by have h := psz_list (some ⟨b, off, none⟩) n c zs W 4 (t : Int) (HRG.out W hW) hx hn (by omega) h0 (by omega) hu; rw [show (n : Int) = 2 + (t : Int) by omega]; exact h)
  have CN1 := Lib.hid (fun W (hW : Below w.heap.size w W) => pnumber_any (some ⟨b, off, none⟩) n c zs 1 p W hp (HRG.out W hW) hx (by omega))
  have CN3 := Lib.hid (fun W (hW : Below w.heap.size w W) => pnumber_any (some ⟨b, off, none⟩) n c zs 3 q W hq (HRG.out W hW) hx (by omega))
  have hn0 : (0 : Int) < (n : Int) := by omega
  have hn1 : (1 : Int) < (n : Int) := by omega
  have hl2 : ¬ (n : Int) < 2 := by omega
  have h2c : (2 : Int) ≤ (n : Int) := by omega
  have h2d : ¬ c = 2 := by omega
  have ea : bits .andNot .u8 4 128 = 4 := by rw [andNot128 _ (by omega) (by omega)]; omega
  have wp : IntKind.u16.wrap p = p := IntWalk.u16_in _ (by omega)
  have wq : IntKind.u16.wrap q = q := IntWalk.u16_in _ (by omega)
  have eb : bits .and .u8 4 128 = 0 := by rw [and128 _ (by omega) (by omega)]; omega
  have hn2t : n - 2 = t := by omega
  have HNT := Lib.hid hnt
  rw [hn2t] at HTL
  have hc1 := HCE.out
  clear hc1
  have CU := Lib.hid (fun (d : Nat) W (hW : Below w.heap.size w W) => (punpacked_yes (some ⟨b, off + 2, none⟩) k t d ((t : Int) / 2) (zs.drop 2) W hk2 (by omega) (HTL.out W hW) (hx.drop 2) (by omega)).mono fun e w' h => (show ∃ G g, e = .returned (.tuple #[.slice G k g, .bool true]) ∧ w'.ownsRow W.heap.size 25 1 (.slice G k g) k ((wordsAt (zs.drop 2) 0 k).map (Value.int .u16)) ∧ Below W.heap.size W w' from ⟨_, _, h.1, own_of_whole h.2.1 (Nat.le_refl _) (by rw [List.length_map, wordsAt_length]) (by omega), h.2.2⟩))
  have hc1t := fun X hX => (HCE.out X hX 1 (by omega)).trans (by rw [hu])
  have HC1 := Lib.hid hc1t
  have ht255 : t ≤ 255 := by have := (hx.at_ 1).2; change zs.getD 1 0 ≤ 255 at this; omega
  have wti : IntKind.i64.wrap (t : Int) = (t : Int) := IntWalk.i64_in _ (by omega)
  clear hc1t hnt hu hk2
  have HP := Lib.hid hp
  have HQ := Lib.hid hq
  have H0 := Lib.hid h0
  clear hr hx hcell hkw hkw1 hp hq h0
  go_enter Try.func26, Try.ntmps26
  go_upto_region 8 with (first
    | (go_at_call 51
       (with_reducible refine (HSZ.out _ ?_).mono ?_)
       · exact (Below.refl _ _).alloc (Nat.le_refl _) _
       rintro e w' ⟨rfl, rfl⟩)
    | (go_at_call 52
       (with_reducible refine (CN1.out _ ?_).mono ?_)
       · first | exact HKW.out | exact below_drewN HKW.out _
       rintro e w' ⟨rfl, d1, rfl⟩)
    | (go_at_call 52
       (with_reducible refine (CN3.out _ ?_).mono ?_)
       · first | exact HKW.out | exact below_drewN HKW.out _
       rintro e w' ⟨rfl, d3, rfl⟩))
  obtain ⟨w3, hw3, G4, G2, GB⟩ := named HG4 HG2 HKW (d1 + d3)
  have hz3 : w.heap.size + 1 < w3.heap.size := G4.out.lt
  obtain ⟨hs0, hs1, hs2, hs3, hs4, hs5, hs6, hs7, hs8, hs9, hs10, hs11, hs12, hs13⟩ := cells14 G4.out
  obtain ⟨hp0, hp1, hp2, hp3, hp4, hp5, hp6, hp7, hp8, hp9, hp10, hp11, hp12, hp13⟩ := cells14 G2.out
  obtain ⟨hf0, hf1, hf2, hf3, hf4, hf5, hf6, hf7, hf8, hf9, hf10, hf11, hf12, hf13⟩ := frozen14 G4.out
  obtain ⟨hg0, hg1, hg2, hg3, hg4, hg5, hg6, hg7, hg8, hg9, hg10, hg11, hg12, hg13⟩ := frozen14 G2.out
  rw [hw3]
  clear hw3 hc0 hc0b HSZ CN1 CN3
  have hcw : w3.cell? ⟨b, off + 1, none⟩ = some (.int .u8 (t : Int)) := HC1.out w3 GB.out
  go_upto_region 21 with fail
  go_region_law (first
    | (go_simp; go_at_call 54
       (with_reducible refine (CU.out _ _ ?_).mono ?_)
       · first | exact GB.out | exact GB.out.drew | exact below_drewN GB.out _
       rintro e w5 ⟨G, g, rfl, ho5, hb5⟩
       have hb5' : Below w3.heap.size w3 w5 := by first | exact hb5 | exact (Below.refl _ _).drew.trans hb5
       have h1 := G4.out.below hb5' G4.out.lt
       have h0' := G2.out.below hb5' G2.out.lt
       have HB5 : Hid (Below w.heap.size w w5) := GB.out.trans (hb5'.mono GB.out.size)
       have hz5 : w.heap.size + 1 < w5.heap.size := h1.lt
       obtain ⟨ks0, ks1, ks2, ks3, ks4, ks5, ks6, ks7, ks8, ks9, ks10, ks11, ks12, ks13⟩ := cells14 h1
       obtain ⟨kp0, kp1, kp2, kp3, kp4, kp5, kp6, kp7, kp8, kp9, kp10, kp11, kp12, kp13⟩ := cells14 h0'
       obtain ⟨kf0, kf1, kf2, kf3, kf4, kf5, kf6, kf7, kf8, kf9, kf10, kf11, kf12, kf13⟩ := frozen14 h1
       obtain ⟨kg0, kg1, kg2, kg3, kg4, kg5, kg6, kg7, kg8, kg9, kg10, kg11, kg12, kg13⟩ := frozen14 h0'
       have HH1 := Lib.hid h1
       have HH0 := Lib.hid h0'
       have HO5 : Hid (w5.ownsRow (w.heap.size + 2) 25 1 (.slice G k g) k ((wordsAt (zs.drop 2) 0 k).map (Value.int .u16))) := own_mono ho5 (show w.heap.size + 2 ≤ w3.heap.size by omega)
       clear h1 h0' hb5 hb5' ho5))
  all_goals
    go_wp2_with fail
    obtain ⟨X, hX⟩ : ∃ X, (w5.setCell ⟨w.heap.size + 1, 3, none⟩ (.slice G k g)) = X := ⟨_, rfl⟩
    have hx0 := (whole_far HH0.out (show w.heap.size ≠ w.heap.size + 1 by omega) 3 (.slice G k g))
    have hxb := (HB5.out.setCell (p := ⟨w.heap.size + 1, 3, none⟩) (Nat.le_succ _) (.slice G k g))
    have hox := (own_far HO5.out ⟨w.heap.size + 1, 3, none⟩ (show w.heap.size + 1 < w.heap.size + 2 by omega) (.slice G k g))
    rw [hX] at hx0 hxb hox
    rw [hX]
    exact end14 Try.results26 hx0 rfl hxb (Nat.le_refl _) rfl rfl fun w9 hbb hk => ⟨_, _, rfl, own_mono (own_blk hox hk (show w.heap.size < w.heap.size + 2 by omega)) (by omega), hbb⟩

set_option maxRecDepth 100000 in
set_option maxHeartbeats 4000000 in
theorem pfl_w_yes_23 (b off n c : Nat) (zs : List Int) (m p q : Int) (t : Nat) (k : Nat) (w : World) (hr : Row .u8 w w.heap.size (some ⟨b, off, none⟩) n zs) (hx : Bytes8 zs) (hn : n ≤ 1000) (h0 : zs.getD 0 0 = 23) (hc : n ≤ c) (hc2 : c ≠ 2) (hp : gotW zs n 1 = p) (hq : gotW zs n 3 = q) (hu : zs.getD 1 0 = (t : Int)) (hnt : n = 2 + t) (hk2 : t = 2 * k) :
    Calls Try.prog 26 #[.slice (some ⟨b, off, none⟩) n c, .int .i64 m] w fun e w' => ∃ G g, e = .returned (.tuple #[.agg #[.int .i64 23, .int .i64 0, .slice none 0 0, .slice G k g, .int .i64 0, .int .i64 0, .int .u16 0, .int .u16 0, .int .u16 0, .int .i64 0, .int .i64 0, .bool false, .int .i64 0, .slice none 0 0], .bool true]) ∧ w'.ownsRow w.heap.size 25 1 (.slice G k g) k ((wordsAt (zs.drop 2) 0 k).map (Value.int .u16)) ∧ Below w.heap.size w w' := by
  have h2n : 2 ≤ n := by omega
  obtain ⟨lop, hip⟩ := gotW_bounds hx n 1
  rw [hp] at lop hip
  obtain ⟨loq, hiq⟩ := gotW_bounds hx n 3
  rw [hq] at loq hiq
  obtain ⟨b', off', e1, hb, hcell⟩ := hr.2 (by omega)
  injection e1 with e1
  injection e1 with e1 e2
  subst e1 e2
  obtain ⟨hkw1, hkw, hg4, hg2⟩ := box2 w 28 [.int .i64 0, .int .i64 0, .slice none 0 0, .slice none 0 0, .int .i64 0, .int .i64 0, .int .u16 0, .int .u16 0, .int .u16 0, .int .i64 0, .int .i64 0, .bool false, .int .i64 0, .slice none 0 0] [.int .i64 23, .int .i64 0, .slice none 0 0, .slice none 0 0, .int .i64 0, .int .i64 0, .int .u16 0, .int .u16 0, .int .u16 0, .int .i64 0, .int .i64 0, .bool false, .int .i64 0, .slice none 0 0]
  have HCE := Lib.hid (fun X (hX : Below w.heap.size w X) j (hj : j < n) => (hX.cell (p := ⟨b, off + j, none⟩) hb).trans (hcell j hj))
  have hc0 := HCE.out _ hkw1 0 (by omega)
  rw [Nat.add_zero, h0] at hc0
  have hc0b := HCE.out _ hkw 0 (by omega)
  rw [Nat.add_zero, h0] at hc0b
  have HRG := Lib.hid (fun X (hX : Below w.heap.size w X) => (hr.below hX).more hX.size)
  have HTL := Lib.hid (fun X (hX : Below w.heap.size w X) => (((hr.below hX).more hX.size : Row .u8 X X.heap.size (some ⟨b, off, none⟩) n zs)).tail (l := 2) (q := n - 2) (by omega))
  have HX := Lib.hid hx
  have HKW := Lib.hid hkw
  have HG4 := Lib.hid hg4
  have HG2 := Lib.hid hg2
  clear hg4 hg2
  have HSZ := Lib.hid (fun W (hW : Below w.heap.size w W) => show Calls Try.prog 51 #[.slice (some ⟨b, off, none⟩) n c] W (fun e w1 => e = .returned (.int .i64 (n : Int)) ∧ W = w1) from by have h := psz_list (some ⟨b, off, none⟩) n c zs W 23 (t : Int) (HRG.out W hW) hx hn (by omega) h0 (by omega) hu; rw [show (n : Int) = 2 + (t : Int) by omega]; exact h)
  have CN1 := Lib.hid (fun W (hW : Below w.heap.size w W) => pnumber_any (some ⟨b, off, none⟩) n c zs 1 p W hp (HRG.out W hW) hx (by omega))
  have CN3 := Lib.hid (fun W (hW : Below w.heap.size w W) => pnumber_any (some ⟨b, off, none⟩) n c zs 3 q W hq (HRG.out W hW) hx (by omega))
  have hn0 : (0 : Int) < (n : Int) := by omega
  have hn1 : (1 : Int) < (n : Int) := by omega
  have hl2 : ¬ (n : Int) < 2 := by omega
  have h2c : (2 : Int) ≤ (n : Int) := by omega
  have h2d : ¬ c = 2 := by omega
  have ea : bits .andNot .u8 23 128 = 23 := by rw [andNot128 _ (by omega) (by omega)]; omega
  have wp : IntKind.u16.wrap p = p := IntWalk.u16_in _ (by omega)
  have wq : IntKind.u16.wrap q = q := IntWalk.u16_in _ (by omega)
  have eb : bits .and .u8 23 128 = 0 := by rw [and128 _ (by omega) (by omega)]; omega
  have hn2t : n - 2 = t := by omega
  have HNT := Lib.hid hnt
  rw [hn2t] at HTL
  have hc1 := HCE.out
  clear hc1
  have CU := Lib.hid (fun (d : Nat) W (hW : Below w.heap.size w W) => (punpacked_yes (some ⟨b, off + 2, none⟩) k t d ((t : Int) / 2) (zs.drop 2) W hk2 (by omega) (HTL.out W hW) (hx.drop 2) (by omega)).mono fun e w' h => (show ∃ G g, e = .returned (.tuple #[.slice G k g, .bool true]) ∧ w'.ownsRow W.heap.size 25 1 (.slice G k g) k ((wordsAt (zs.drop 2) 0 k).map (Value.int .u16)) ∧ Below W.heap.size W w' from ⟨_, _, h.1, own_of_whole h.2.1 (Nat.le_refl _) (by rw [List.length_map, wordsAt_length]) (by omega), h.2.2⟩))
  have hc1t := fun X hX => (HCE.out X hX 1 (by omega)).trans (by rw [hu])
  have HC1 := Lib.hid hc1t
  have ht255 : t ≤ 255 := by have := (hx.at_ 1).2; change zs.getD 1 0 ≤ 255 at this; omega
  have wti : IntKind.i64.wrap (t : Int) = (t : Int) := IntWalk.i64_in _ (by omega)
  clear hc1t hnt hu hk2
  have HP := Lib.hid hp
  have HQ := Lib.hid hq
  have H0 := Lib.hid h0
  clear hr hx hcell hkw hkw1 hp hq h0
  go_enter Try.func26, Try.ntmps26
  go_upto_region 8 with (first
    | (go_at_call 51
       (with_reducible refine (HSZ.out _ ?_).mono ?_)
       · exact (Below.refl _ _).alloc (Nat.le_refl _) _
       rintro e w' ⟨rfl, rfl⟩)
    | (go_at_call 52
       (with_reducible refine (CN1.out _ ?_).mono ?_)
       · first | exact HKW.out | exact below_drewN HKW.out _
       rintro e w' ⟨rfl, d1, rfl⟩)
    | (go_at_call 52
       (with_reducible refine (CN3.out _ ?_).mono ?_)
       · first | exact HKW.out | exact below_drewN HKW.out _
       rintro e w' ⟨rfl, d3, rfl⟩))
  obtain ⟨w3, hw3, G4, G2, GB⟩ := named HG4 HG2 HKW (d1 + d3)
  have hz3 : w.heap.size + 1 < w3.heap.size := G4.out.lt
  obtain ⟨hs0, hs1, hs2, hs3, hs4, hs5, hs6, hs7, hs8, hs9, hs10, hs11, hs12, hs13⟩ := cells14 G4.out
  obtain ⟨hp0, hp1, hp2, hp3, hp4, hp5, hp6, hp7, hp8, hp9, hp10, hp11, hp12, hp13⟩ := cells14 G2.out
  obtain ⟨hf0, hf1, hf2, hf3, hf4, hf5, hf6, hf7, hf8, hf9, hf10, hf11, hf12, hf13⟩ := frozen14 G4.out
  obtain ⟨hg0, hg1, hg2, hg3, hg4, hg5, hg6, hg7, hg8, hg9, hg10, hg11, hg12, hg13⟩ := frozen14 G2.out
  rw [hw3]
  clear hw3 hc0 hc0b HSZ CN1 CN3
  have hcw : w3.cell? ⟨b, off + 1, none⟩ = some (.int .u8 (t : Int)) := HC1.out w3 GB.out
  go_upto_region 21 with fail
  go_region_law (first
    | (go_simp; go_at_call 54
       (with_reducible refine (CU.out _ _ ?_).mono ?_)
       · first | exact GB.out | exact GB.out.drew | exact below_drewN GB.out _
       rintro e w5 ⟨G, g, rfl, ho5, hb5⟩
       have hb5' : Below w3.heap.size w3 w5 := by first | exact hb5 | exact (Below.refl _ _).drew.trans hb5
       have h1 := G4.out.below hb5' G4.out.lt
       have h0' := G2.out.below hb5' G2.out.lt
       have HB5 : Hid (Below w.heap.size w w5) := GB.out.trans (hb5'.mono GB.out.size)
       have hz5 : w.heap.size + 1 < w5.heap.size := h1.lt
       obtain ⟨ks0, ks1, ks2, ks3, ks4, ks5, ks6, ks7, ks8, ks9, ks10, ks11, ks12, ks13⟩ := cells14 h1
       obtain ⟨kp0, kp1, kp2, kp3, kp4, kp5, kp6, kp7, kp8, kp9, kp10, kp11, kp12, kp13⟩ := cells14 h0'
       obtain ⟨kf0, kf1, kf2, kf3, kf4, kf5, kf6, kf7, kf8, kf9, kf10, kf11, kf12, kf13⟩ := frozen14 h1
       obtain ⟨kg0, kg1, kg2, kg3, kg4, kg5, kg6, kg7, kg8, kg9, kg10, kg11, kg12, kg13⟩ := frozen14 h0'
       have HH1 := Lib.hid h1
       have HH0 := Lib.hid h0'
       have HO5 : Hid (w5.ownsRow (w.heap.size + 2) 25 1 (.slice G k g) k ((wordsAt (zs.drop 2) 0 k).map (Value.int .u16))) := own_mono ho5 (show w.heap.size + 2 ≤ w3.heap.size by omega)
       clear h1 h0' hb5 hb5' ho5))
  all_goals
    go_wp2_with fail
    obtain ⟨X, hX⟩ : ∃ X, (w5.setCell ⟨w.heap.size + 1, 3, none⟩ (.slice G k g)) = X := ⟨_, rfl⟩
    have hx0 := (whole_far HH0.out (show w.heap.size ≠ w.heap.size + 1 by omega) 3 (.slice G k g))
    have hxb := (HB5.out.setCell (p := ⟨w.heap.size + 1, 3, none⟩) (Nat.le_succ _) (.slice G k g))
    have hox := (own_far HO5.out ⟨w.heap.size + 1, 3, none⟩ (show w.heap.size + 1 < w.heap.size + 2 by omega) (.slice G k g))
    rw [hX] at hx0 hxb hox
    rw [hX]
    exact end14 Try.results26 hx0 rfl hxb (Nat.le_refl _) rfl rfl fun w9 hbb hk => ⟨_, _, rfl, own_mono (own_blk hox hk (show w.heap.size < w.heap.size + 2 by omega)) (by omega), hbb⟩

theorem ok_of_plain {F : FuncId} {A : Option Addr} {n c : Nat} {m : Int} {w : World} (t : TV) (h1 : t.bl = 0) (h2 : t.wl = 0) (h3 : t.ol = 0) (h4 : t.bs = []) (h5 : t.ws = []) (h6 : t.os = [])
    (h : Calls Try.prog F #[.slice A n c, .int .i64 m] w fun e w' => e = .returned (.tuple #[t.agg none 0 none 0 none 0, .bool true]) ∧ Below w.heap.size w w') : TOk F A n c m t w :=
  h.mono fun e w' h => ⟨none, 0, none, 0, none, 0, h.1, rd_nil t _ _ h1 h2 h3 h4 h5 h6, h.2⟩
theorem fine0 (fn ex : Int) : ({ fn := fn, ex := ex } : TV).Fine := ⟨⟨by dsimp only; omega, by dsimp only; omega, by dsimp only; omega, by dsimp only; omega, by dsimp only; omega, by dsimp only; omega, by dsimp only; omega, by dsimp only; omega, by dsimp only; omega, by dsimp only; omega, by dsimp only; omega, by dsimp only; omega, by dsimp only; omega, by dsimp only; omega, by dsimp only; omega, by dsimp only; omega⟩, by dsimp only; omega, by dsimp only; omega, by dsimp only; omega, fun o ho => by cases ho⟩

section
variable {m : Int}

theorem back_6 (at_ v : Int) (a0 : 0 ≤ at_) (a1 : at_ ≤ 65535) (v0 : 0 ≤ v) (v1 : v ≤ 65535) (hr : ({ fn := 6, at_ := at_, v := v } : TV).right) : let zs : List Int := [6, at_ / 256, at_ % 256, v / 256, v % 256]
    ∀ b off c w, PIn zs 5 b off c w → TGot 8 (some ⟨b, off, none⟩) 5 c m ({ fn := 6, at_ := at_, v := v } : TV) w := by
  intro zs b off c w h
  have hf : ({ fn := 6, at_ := at_, v := v } : TV).Fine := ⟨⟨by dsimp only; omega, by dsimp only; omega, by dsimp only; omega, by dsimp only; omega, by dsimp only; omega, by dsimp only; omega, by dsimp only; omega, by dsimp only; omega, by dsimp only; omega, by dsimp only; omega, by dsimp only; omega, by dsimp only; omega, by dsimp only; omega, by dsimp only; omega, by dsimp only; omega, by dsimp only; omega⟩, by dsimp only; omega, by dsimp only; omega, by dsimp only; omega, fun o ho => by cases ho⟩
  have hx : Bytes8 zs := by
    intro x hx
    simp [zs] at hx
    omega
  have h1 : gotW zs 5 1 = at_ := by simp [gotW, zs, wordAt]; omega
  have h3 : gotW zs 5 3 = v := by simp [gotW, zs, wordAt]; omega
  exact p_ok hf (fun b off c w h => ok_of_plain ({ fn := 6, at_ := at_, v := v } : TV) rfl rfl rfl rfl rfl rfl (pfl_6 b off 5 c zs m at_ v w h.1 hx (by omega) rfl h.2.1 (h.2.2 (by omega)) h1 h3 rfl)) h hr

theorem back_15 (at_ q : Int) (a0 : 0 ≤ at_) (a1 : at_ ≤ 65535) (v0 : 0 ≤ q) (v1 : q ≤ 65535) (hr : ({ fn := 15, at_ := at_, q := q } : TV).right) : let zs : List Int := [15, at_ / 256, at_ % 256, q / 256, q % 256]
    ∀ b off c w, PIn zs 5 b off c w → TGot 8 (some ⟨b, off, none⟩) 5 c m ({ fn := 15, at_ := at_, q := q } : TV) w := by
  intro zs b off c w h
  have hf : ({ fn := 15, at_ := at_, q := q } : TV).Fine := ⟨⟨by dsimp only; omega, by dsimp only; omega, by dsimp only; omega, by dsimp only; omega, by dsimp only; omega, by dsimp only; omega, by dsimp only; omega, by dsimp only; omega, by dsimp only; omega, by dsimp only; omega, by dsimp only; omega, by dsimp only; omega, by dsimp only; omega, by dsimp only; omega, by dsimp only; omega, by dsimp only; omega⟩, by dsimp only; omega, by dsimp only; omega, by dsimp only; omega, fun o ho => by cases ho⟩
  have hx : Bytes8 zs := by
    intro x hx
    simp [zs] at hx
    omega
  have h1 : gotW zs 5 1 = at_ := by simp [gotW, zs, wordAt]; omega
  have h3 : gotW zs 5 3 = q := by simp [gotW, zs, wordAt]; omega
  exact p_ok hf (fun b off c w h => ok_of_plain ({ fn := 15, at_ := at_, q := q } : TV) rfl rfl rfl rfl rfl rfl (pfl_15 b off 5 c zs m at_ q w h.1 hx (by omega) rfl h.2.1 (h.2.2 (by omega)) h1 h3 rfl)) h hr

theorem back_16 (at_ q : Int) (a0 : 0 ≤ at_) (a1 : at_ ≤ 65535) (v0 : 0 ≤ q) (v1 : q ≤ 65535) (hr : ({ fn := 16, at_ := at_, q := q } : TV).right) : let zs : List Int := [16, at_ / 256, at_ % 256, q / 256, q % 256]
    ∀ b off c w, PIn zs 5 b off c w → TGot 8 (some ⟨b, off, none⟩) 5 c m ({ fn := 16, at_ := at_, q := q } : TV) w := by
  intro zs b off c w h
  have hf : ({ fn := 16, at_ := at_, q := q } : TV).Fine := ⟨⟨by dsimp only; omega, by dsimp only; omega, by dsimp only; omega, by dsimp only; omega, by dsimp only; omega, by dsimp only; omega, by dsimp only; omega, by dsimp only; omega, by dsimp only; omega, by dsimp only; omega, by dsimp only; omega, by dsimp only; omega, by dsimp only; omega, by dsimp only; omega, by dsimp only; omega, by dsimp only; omega⟩, by dsimp only; omega, by dsimp only; omega, by dsimp only; omega, fun o ho => by cases ho⟩
  have hx : Bytes8 zs := by
    intro x hx
    simp [zs] at hx
    omega
  have h1 : gotW zs 5 1 = at_ := by simp [gotW, zs, wordAt]; omega
  have h3 : gotW zs 5 3 = q := by simp [gotW, zs, wordAt]; omega
  exact p_ok hf (fun b off c w h => ok_of_plain ({ fn := 16, at_ := at_, q := q } : TV) rfl rfl rfl rfl rfl rfl (pfl_16 b off 5 c zs m at_ q w h.1 hx (by omega) rfl h.2.1 (h.2.2 (by omega)) h1 h3 rfl)) h hr

theorem back_22 (at_ an orr : Int) (a0 : 0 ≤ at_) (a1 : at_ ≤ 65535) (v0 : 0 ≤ an) (v1 : an ≤ 65535) (o0 : 0 ≤ orr) (o1 : orr ≤ 65535) (hr : ({ fn := 22, at_ := at_, an := an, orr := orr } : TV).right) : let zs : List Int := [22, at_ / 256, at_ % 256, an / 256, an % 256, orr / 256, orr % 256]
    ∀ b off c w, PIn zs 7 b off c w → TGot 8 (some ⟨b, off, none⟩) 7 c m ({ fn := 22, at_ := at_, an := an, orr := orr } : TV) w := by
  intro zs b off c w h
  have hf : ({ fn := 22, at_ := at_, an := an, orr := orr } : TV).Fine := ⟨⟨by dsimp only; omega, by dsimp only; omega, by dsimp only; omega, by dsimp only; omega, by dsimp only; omega, by dsimp only; omega, by dsimp only; omega, by dsimp only; omega, by dsimp only; omega, by dsimp only; omega, by dsimp only; omega, by dsimp only; omega, by dsimp only; omega, by dsimp only; omega, by dsimp only; omega, by dsimp only; omega⟩, by dsimp only; omega, by dsimp only; omega, by dsimp only; omega, fun o ho => by cases ho⟩
  have hx : Bytes8 zs := by
    intro x hx
    simp [zs] at hx
    omega
  have h1 : gotW zs 7 1 = at_ := by simp [gotW, zs, wordAt]; omega
  have h3 : gotW zs 7 3 = an := by simp [gotW, zs, wordAt]; omega
  have h5 : gotW zs 7 5 = orr := by simp [gotW, zs, wordAt]; omega
  exact p_ok hf (fun b off c w h => ok_of_plain ({ fn := 22, at_ := at_, an := an, orr := orr } : TV) rfl rfl rfl rfl rfl rfl (pfl_22 b off 7 c zs m at_ an orr w h.1 hx (by omega) rfl h.2.1 (h.2.2 (by omega)) h1 h3 rfl h5)) h hr

theorem back_5_0 (at_ : Int) (a0 : 0 ≤ at_) (a1 : at_ ≤ 65535) (hr : ({ fn := 5, at_ := at_ } : TV).right) : let zs : List Int := [5, at_ / 256, at_ % 256, 0, 0]
    ∀ b off c w, PIn zs 5 b off c w → TGot 8 (some ⟨b, off, none⟩) 5 c m ({ fn := 5, at_ := at_ } : TV) w := by
  intro zs b off c w h
  have hf : ({ fn := 5, at_ := at_ } : TV).Fine := ⟨⟨by dsimp only; omega, by dsimp only; omega, by dsimp only; omega, by dsimp only; omega, by dsimp only; omega, by dsimp only; omega, by dsimp only; omega, by dsimp only; omega, by dsimp only; omega, by dsimp only; omega, by dsimp only; omega, by dsimp only; omega, by dsimp only; omega, by dsimp only; omega, by dsimp only; omega, by dsimp only; omega⟩, by dsimp only; omega, by dsimp only; omega, by dsimp only; omega, fun o ho => by cases ho⟩
  have hx : Bytes8 zs := by
    intro x hx
    simp [zs] at hx
    omega
  have h1 : gotW zs 5 1 = at_ := by simp [gotW, zs, wordAt]; omega
  have h3 : gotW zs 5 3 = 0 := by simp [gotW, zs, wordAt]
  exact p_ok hf (fun b off c w h => ok_of_plain ({ fn := 5, at_ := at_ } : TV) rfl rfl rfl rfl rfl rfl (pfl_5_0 b off 5 c zs m at_ 0 w h.1 hx (by omega) rfl h.2.1 (h.2.2 (by omega)) h1 h3 rfl rfl)) h hr

theorem back_5_1 (at_ : Int) (a0 : 0 ≤ at_) (a1 : at_ ≤ 65535) (hr : ({ fn := 5, at_ := at_, v := 1 } : TV).right) : let zs : List Int := [5, at_ / 256, at_ % 256, 255, 0]
    ∀ b off c w, PIn zs 5 b off c w → TGot 8 (some ⟨b, off, none⟩) 5 c m ({ fn := 5, at_ := at_, v := 1 } : TV) w := by
  intro zs b off c w h
  have hf : ({ fn := 5, at_ := at_, v := 1 } : TV).Fine := ⟨⟨by dsimp only; omega, by dsimp only; omega, by dsimp only; omega, by dsimp only; omega, by dsimp only; omega, by dsimp only; omega, by dsimp only; omega, by dsimp only; omega, by dsimp only; omega, by dsimp only; omega, by dsimp only; omega, by dsimp only; omega, by dsimp only; omega, by dsimp only; omega, by dsimp only; omega, by dsimp only; omega⟩, by dsimp only; omega, by dsimp only; omega, by dsimp only; omega, fun o ho => by cases ho⟩
  have hx : Bytes8 zs := by
    intro x hx
    simp [zs] at hx
    omega
  have h1 : gotW zs 5 1 = at_ := by simp [gotW, zs, wordAt]; omega
  have h3 : gotW zs 5 3 = 65280 := by simp [gotW, zs, wordAt]
  exact p_ok hf (fun b off c w h => ok_of_plain ({ fn := 5, at_ := at_, v := 1 } : TV) rfl rfl rfl rfl rfl rfl (pfl_5_1 b off 5 c zs m at_ 65280 w h.1 hx (by omega) rfl h.2.1 (h.2.2 (by omega)) h1 h3 rfl rfl)) h hr

theorem back_1 (k : Nat) (bs : List Bool) (hb : bs.length = k) (hk : 1 ≤ k ∧ k ≤ 2000) (hr : ({ fn := 1, bl := k, bs := bs } : TV).right) : ∀ b off c w, PIn ([1, ((nb k : Nat) : Int)] ++ pk bs k) (2 + nb k) b off c w → TGot 8 (some ⟨b, off, none⟩) (2 + nb k) c (k : Int) ({ fn := 1, bl := k, bs := bs } : TV) w := by
  intro b off c w h
  have hf : ({ fn := 1, bl := k, bs := bs } : TV).Fine := ⟨⟨by dsimp only; omega, by dsimp only; omega, by dsimp only; omega, by dsimp only; omega, by dsimp only; omega, by dsimp only; omega, by dsimp only; omega, by dsimp only; omega, by dsimp only; omega, by dsimp only; omega, by dsimp only; omega, by dsimp only; omega, by dsimp only; omega, by dsimp only; omega, by dsimp only; omega, by dsimp only; omega⟩, by dsimp only; omega, by dsimp only; omega, by dsimp only; omega, fun o ho => by cases ho⟩
  have hn : nb k ≤ 250 ∧ 1 ≤ nb k := by unfold nb; omega
  have hx : Bytes8 ([1, ((nb k : Nat) : Int)] ++ pk bs k) := by
    intro x hx
    rcases List.mem_append.1 hx with hx | hx
    · simp at hx
      omega
    · exact pk_bytes bs k x hx
  have hu : unb (([1, ((nb k : Nat) : Int)] ++ pk bs k).drop 2) k = bs := by
    subst hb
    exact unb_pk bs
  refine p_ok hf (fun b off c w h => (pfl_b_yes_1 b off (2 + nb k) c ([1, ((nb k : Nat) : Int)] ++ pk bs k) (k : Int) _ _ (nb k) k w h.1 hx (by omega) rfl h.2.1 (h.2.2 (by omega)) rfl rfl rfl rfl rfl rfl).mono fun e w' h => ?_) h hr
  obtain ⟨G, g, he, ho, hb⟩ := h
  rw [hu] at ho
  exact ⟨G, g, none, 0, none, 0, he, ⟨ho, own_none _ _ _, own2_none _ _ _⟩, hb⟩

theorem back_2 (k : Nat) (bs : List Bool) (hb : bs.length = k) (hk : 1 ≤ k ∧ k ≤ 2000) (hr : ({ fn := 2, bl := k, bs := bs } : TV).right) : ∀ b off c w, PIn ([2, ((nb k : Nat) : Int)] ++ pk bs k) (2 + nb k) b off c w → TGot 8 (some ⟨b, off, none⟩) (2 + nb k) c (k : Int) ({ fn := 2, bl := k, bs := bs } : TV) w := by
  intro b off c w h
  have hf : ({ fn := 2, bl := k, bs := bs } : TV).Fine := ⟨⟨by dsimp only; omega, by dsimp only; omega, by dsimp only; omega, by dsimp only; omega, by dsimp only; omega, by dsimp only; omega, by dsimp only; omega, by dsimp only; omega, by dsimp only; omega, by dsimp only; omega, by dsimp only; omega, by dsimp only; omega, by dsimp only; omega, by dsimp only; omega, by dsimp only; omega, by dsimp only; omega⟩, by dsimp only; omega, by dsimp only; omega, by dsimp only; omega, fun o ho => by cases ho⟩
  have hn : nb k ≤ 250 ∧ 1 ≤ nb k := by unfold nb; omega
  have hx : Bytes8 ([2, ((nb k : Nat) : Int)] ++ pk bs k) := by
    intro x hx
    rcases List.mem_append.1 hx with hx | hx
    · simp at hx
      omega
    · exact pk_bytes bs k x hx
  have hu : unb (([2, ((nb k : Nat) : Int)] ++ pk bs k).drop 2) k = bs := by
    subst hb
    exact unb_pk bs
  refine p_ok hf (fun b off c w h => (pfl_b_yes_2 b off (2 + nb k) c ([2, ((nb k : Nat) : Int)] ++ pk bs k) (k : Int) _ _ (nb k) k w h.1 hx (by omega) rfl h.2.1 (h.2.2 (by omega)) rfl rfl rfl rfl rfl rfl).mono fun e w' h => ?_) h hr
  obtain ⟨G, g, he, ho, hb⟩ := h
  rw [hu] at ho
  exact ⟨G, g, none, 0, none, 0, he, ⟨ho, own_none _ _ _, own2_none _ _ _⟩, hb⟩

theorem back_3 (k : Nat) (ws : List Int) (hb : ws.length = k) (hw : Words ws) (hk : 1 ≤ k ∧ k ≤ 125) (hr : ({ fn := 3, wl := k, ws := ws } : TV).right) : ∀ b off c w, PIn ([3, ((2 * k : Nat) : Int)] ++ flat ws) (2 + 2 * k) b off c w → TGot 8 (some ⟨b, off, none⟩) (2 + 2 * k) c m ({ fn := 3, wl := k, ws := ws } : TV) w := by
  intro b off c w h
  have hf : ({ fn := 3, wl := k, ws := ws } : TV).Fine := ⟨⟨by dsimp only; omega, by dsimp only; omega, by dsimp only; omega, by dsimp only; omega, by dsimp only; omega, by dsimp only; omega, by dsimp only; omega, by dsimp only; omega, by dsimp only; omega, by dsimp only; omega, by dsimp only; omega, by dsimp only; omega, by dsimp only; omega, by dsimp only; omega, by dsimp only; omega, by dsimp only; omega⟩, by dsimp only; omega, by dsimp only; omega, by dsimp only; omega, fun o ho => by cases ho⟩
  have hx : Bytes8 ([3, ((2 * k : Nat) : Int)] ++ flat ws) := by
    intro x hx
    rcases List.mem_append.1 hx with hx | hx
    · simp at hx
      omega
    · exact flat_bytes ws hw x hx
  have hu : wordsAt (([3, ((2 * k : Nat) : Int)] ++ flat ws).drop 2) 0 k = ws := by
    subst hb
    exact wordsAt_flat ws hw
  refine p_ok hf (fun b off c w h => (pfl_w_yes_3 b off (2 + 2 * k) c ([3, ((2 * k : Nat) : Int)] ++ flat ws) m _ _ (2 * k) k w h.1 hx (by omega) rfl h.2.1 (h.2.2 (by omega)) rfl rfl rfl rfl rfl).mono fun e w' h => ?_) h hr
  obtain ⟨G, g, he, ho, hb⟩ := h
  rw [hu] at ho
  exact ⟨none, 0, G, g, none, 0, he, ⟨own_none _ _ _, ho, own2_none _ _ _⟩, hb⟩

theorem back_4 (k : Nat) (ws : List Int) (hb : ws.length = k) (hw : Words ws) (hk : 1 ≤ k ∧ k ≤ 125) (hr : ({ fn := 4, wl := k, ws := ws } : TV).right) : ∀ b off c w, PIn ([4, ((2 * k : Nat) : Int)] ++ flat ws) (2 + 2 * k) b off c w → TGot 8 (some ⟨b, off, none⟩) (2 + 2 * k) c m ({ fn := 4, wl := k, ws := ws } : TV) w := by
  intro b off c w h
  have hf : ({ fn := 4, wl := k, ws := ws } : TV).Fine := ⟨⟨by dsimp only; omega, by dsimp only; omega, by dsimp only; omega, by dsimp only; omega, by dsimp only; omega, by dsimp only; omega, by dsimp only; omega, by dsimp only; omega, by dsimp only; omega, by dsimp only; omega, by dsimp only; omega, by dsimp only; omega, by dsimp only; omega, by dsimp only; omega, by dsimp only; omega, by dsimp only; omega⟩, by dsimp only; omega, by dsimp only; omega, by dsimp only; omega, fun o ho => by cases ho⟩
  have hx : Bytes8 ([4, ((2 * k : Nat) : Int)] ++ flat ws) := by
    intro x hx
    rcases List.mem_append.1 hx with hx | hx
    · simp at hx
      omega
    · exact flat_bytes ws hw x hx
  have hu : wordsAt (([4, ((2 * k : Nat) : Int)] ++ flat ws).drop 2) 0 k = ws := by
    subst hb
    exact wordsAt_flat ws hw
  refine p_ok hf (fun b off c w h => (pfl_w_yes_4 b off (2 + 2 * k) c ([4, ((2 * k : Nat) : Int)] ++ flat ws) m _ _ (2 * k) k w h.1 hx (by omega) rfl h.2.1 (h.2.2 (by omega)) rfl rfl rfl rfl rfl).mono fun e w' h => ?_) h hr
  obtain ⟨G, g, he, ho, hb⟩ := h
  rw [hu] at ho
  exact ⟨none, 0, G, g, none, 0, he, ⟨own_none _ _ _, ho, own2_none _ _ _⟩, hb⟩

theorem back_23 (k : Nat) (ws : List Int) (hb : ws.length = k) (hw : Words ws) (hk : 1 ≤ k ∧ k ≤ 125) (hr : ({ fn := 23, wl := k, ws := ws } : TV).right) : ∀ b off c w, PIn ([23, ((2 * k : Nat) : Int)] ++ flat ws) (2 + 2 * k) b off c w → TGot 8 (some ⟨b, off, none⟩) (2 + 2 * k) c m ({ fn := 23, wl := k, ws := ws } : TV) w := by
  intro b off c w h
  have hf : ({ fn := 23, wl := k, ws := ws } : TV).Fine := ⟨⟨by dsimp only; omega, by dsimp only; omega, by dsimp only; omega, by dsimp only; omega, by dsimp only; omega, by dsimp only; omega, by dsimp only; omega, by dsimp only; omega, by dsimp only; omega, by dsimp only; omega, by dsimp only; omega, by dsimp only; omega, by dsimp only; omega, by dsimp only; omega, by dsimp only; omega, by dsimp only; omega⟩, by dsimp only; omega, by dsimp only; omega, by dsimp only; omega, fun o ho => by cases ho⟩
  have hx : Bytes8 ([23, ((2 * k : Nat) : Int)] ++ flat ws) := by
    intro x hx
    rcases List.mem_append.1 hx with hx | hx
    · simp at hx
      omega
    · exact flat_bytes ws hw x hx
  have hu : wordsAt (([23, ((2 * k : Nat) : Int)] ++ flat ws).drop 2) 0 k = ws := by
    subst hb
    exact wordsAt_flat ws hw
  refine p_ok hf (fun b off c w h => (pfl_w_yes_23 b off (2 + 2 * k) c ([23, ((2 * k : Nat) : Int)] ++ flat ws) m _ _ (2 * k) k w h.1 hx (by omega) rfl h.2.1 (h.2.2 (by omega)) rfl rfl rfl rfl rfl).mono fun e w' h => ?_) h hr
  obtain ⟨G, g, he, ho, hb⟩ := h
  rw [hu] at ho
  exact ⟨none, 0, G, g, none, 0, he, ⟨own_none _ _ _, ho, own2_none _ _ _⟩, hb⟩

end

theorem own_told {w : World} {base : Nat} {C : Option Addr} {n cc : Nat} {zs : List Int} (h : w.ownsRow base 5 1 (.slice C n cc) n (zs.map (Value.int .u8))) (hn : 0 < n) : ∃ g, C = some ⟨g, 0, none⟩ ∧ n ≤ cc ∧ Row .u8 w w.heap.size (some ⟨g, 0, none⟩) n zs := by
  have hr := (own_row h).ints
  rcases h.2 with ⟨_, h0⟩ | ⟨g, cap, cur, e, _, _, hnc, _⟩
  · omega
  · injection e with e1 e2 e3
    subst e1 e3
    exact ⟨g, rfl, hnc, hr⟩
theorem whole_told {w : World} {g n : Nat} {zs : List Int} (h : Whole .u8 w g 5 zs) (hl : zs.length = n) : Row .u8 w w.heap.size (some ⟨g, 0, none⟩) n zs := by
  subst hl
  exact h.row

theorem flat_len (ws : List Int) : (flat ws).length = 2 * ws.length := by
  induction ws with
  | nil => rfl
  | cons x xs ih =>
    have e : flat (x :: xs) = be x ++ flat xs := rfl
    rw [e, List.length_append, ih]
    simp [be]
    omega

theorem fit0 : (decide (fitP ([] : List Ob))).toNat = 1 := by decide
/-- What Bytes tells of a reply, wherever its lists lie, and that Parse reads the reply out of it. -/
def BacksF (t : TV) (m : Int) : Prop := ∃ (n : Nat) (zs : List Int), 3 ≤ n ∧ n ≤ 253 ∧ Bytes8 zs ∧ zs.length = n ∧ zs.getD 0 0 = t.fn ∧
  (∀ W BA bc WA wc OA oc, BRow W W.heap.size BA t.bl t.bs → Row .u16 W W.heap.size WA t.wl t.ws → OL W W.heap.size OA t.ol t.os → Calls Try.prog 7 #[t.agg BA bc WA wc OA oc] W fun e w' =>
    ∃ C cc, e = .returned (.tuple #[.slice (some ⟨C, 0, none⟩) n cc, .int .i64 0]) ∧ n ≤ cc ∧ Row .u8 w' w'.heap.size (some ⟨C, 0, none⟩) n zs ∧ Below W.heap.size W w') ∧
  ∀ b off c w, PIn zs n b off c w → TGot 8 (some ⟨b, off, none⟩) n c m t w

section
variable {m : Int}

theorem backsF_6 (at_ n v an orr : Int) (hw : WideT at_ n v an orr 0 0 0) (hr : ({ fn := 6, at_ := at_, q := n, v := v, an := an, orr := orr } : TV).right) : BacksF ({ fn := 6, at_ := at_, q := n, v := v, an := an, orr := orr } : TV) m := by
  have hr2 := hr
  unfold TV.right tellP at hr2
  dsimp only at hr2
  have hq := hr2
  rcases hq with ⟨_, _, ⟨a0, a1⟩, hg, hs⟩ | ⟨hq, _⟩
  · unfold restT at hs
    unfold rangT at hg
    obtain rfl : n = 0 := by omega
    obtain rfl : an = 0 := by omega
    obtain rfl : orr = 0 := by omega
    refine ⟨5, [6, at_ / 256, at_ % 256, v / 256, v % 256], by omega, by omega, (by intro y hy; simp at hy; have := hw.v1; have := hw.v0; have := hw.d0; have := hw.d1; have := hw.o0; have := hw.o1; omega), rfl, rfl, fun W BA bc WA wc OA oc _ _ _ => (pbG_6 at_ 0 v 0 0 BA WA OA bc wc oc W hw (by have h := hr; unfold TV.right at h; dsimp only at h; rw [fit0] at h; exact h)).mono fun e w' h => ?_, back_6 at_ v a0 a1 hw.v0 hw.v1 hr⟩
    obtain ⟨g, he, hW, hg, hb⟩ := h
    exact ⟨g, 5, he, Nat.le_refl _, whole_told hW rfl, hb⟩
  · omega

theorem backsF_15 (at_ n v an orr : Int) (hw : WideT at_ n v an orr 0 0 0) (hr : ({ fn := 15, at_ := at_, q := n, v := v, an := an, orr := orr } : TV).right) : BacksF ({ fn := 15, at_ := at_, q := n, v := v, an := an, orr := orr } : TV) m := by
  have hr2 := hr
  unfold TV.right tellP at hr2
  dsimp only at hr2
  have hq := hr2
  rcases hq with ⟨_, _, ⟨a0, a1⟩, hg, hs⟩ | ⟨hq, _⟩
  · unfold restT at hs
    unfold rangT at hg
    obtain rfl : v = 0 := by omega
    obtain rfl : an = 0 := by omega
    obtain rfl : orr = 0 := by omega
    have hq1 : n ≤ kMostW 15 := by omega
    have hq3 : kMostW 15 ≤ 65535 := by decide
    have hq2 : n ≤ 65535 := by omega
    refine ⟨5, [15, at_ / 256, at_ % 256, n / 256, n % 256], by omega, by omega, (by intro y hy; simp at hy; have := hw.v1; have := hw.v0; have := hw.d0; have := hw.d1; have := hw.o0; have := hw.o1; omega), rfl, rfl, fun W BA bc WA wc OA oc _ _ _ => (pbG_15 at_ n 0 0 0 BA WA OA bc wc oc W hw (by have h := hr; unfold TV.right at h; dsimp only at h; rw [fit0] at h; exact h)).mono fun e w' h => ?_, back_15 at_ n a0 a1 (by omega) hq2 hr⟩
    obtain ⟨g, he, hW, hg, hb⟩ := h
    exact ⟨g, 5, he, Nat.le_refl _, whole_told hW rfl, hb⟩
  · omega

theorem backsF_16 (at_ n v an orr : Int) (hw : WideT at_ n v an orr 0 0 0) (hr : ({ fn := 16, at_ := at_, q := n, v := v, an := an, orr := orr } : TV).right) : BacksF ({ fn := 16, at_ := at_, q := n, v := v, an := an, orr := orr } : TV) m := by
  have hr2 := hr
  unfold TV.right tellP at hr2
  dsimp only at hr2
  have hq := hr2
  rcases hq with ⟨_, _, ⟨a0, a1⟩, hg, hs⟩ | ⟨hq, _⟩
  · unfold restT at hs
    unfold rangT at hg
    obtain rfl : v = 0 := by omega
    obtain rfl : an = 0 := by omega
    obtain rfl : orr = 0 := by omega
    have hq1 : n ≤ kMostW 16 := by omega
    have hq3 : kMostW 16 ≤ 65535 := by decide
    have hq2 : n ≤ 65535 := by omega
    refine ⟨5, [16, at_ / 256, at_ % 256, n / 256, n % 256], by omega, by omega, (by intro y hy; simp at hy; have := hw.v1; have := hw.v0; have := hw.d0; have := hw.d1; have := hw.o0; have := hw.o1; omega), rfl, rfl, fun W BA bc WA wc OA oc _ _ _ => (pbG_16 at_ n 0 0 0 BA WA OA bc wc oc W hw (by have h := hr; unfold TV.right at h; dsimp only at h; rw [fit0] at h; exact h)).mono fun e w' h => ?_, back_16 at_ n a0 a1 (by omega) hq2 hr⟩
    obtain ⟨g, he, hW, hg, hb⟩ := h
    exact ⟨g, 5, he, Nat.le_refl _, whole_told hW rfl, hb⟩
  · omega

theorem backsF_22 (at_ n v an orr : Int) (hw : WideT at_ n v an orr 0 0 0) (hr : ({ fn := 22, at_ := at_, q := n, v := v, an := an, orr := orr } : TV).right) : BacksF ({ fn := 22, at_ := at_, q := n, v := v, an := an, orr := orr } : TV) m := by
  have hr2 := hr
  unfold TV.right tellP at hr2
  dsimp only at hr2
  have hq := hr2
  rcases hq with ⟨_, _, ⟨a0, a1⟩, hg, hs⟩ | ⟨hq, _⟩
  · unfold restT at hs
    unfold rangT at hg
    obtain rfl : n = 0 := by omega
    obtain rfl : v = 0 := by omega
    refine ⟨7, [22, at_ / 256, at_ % 256, an / 256, an % 256, orr / 256, orr % 256], by omega, by omega, (by intro y hy; simp at hy; have := hw.v1; have := hw.v0; have := hw.d0; have := hw.d1; have := hw.o0; have := hw.o1; omega), rfl, rfl, fun W BA bc WA wc OA oc _ _ _ => (pbG_22 at_ 0 0 an orr BA WA OA bc wc oc W hw (by have h := hr; unfold TV.right at h; dsimp only at h; rw [fit0] at h; exact h)).mono fun e w' h => ?_, back_22 at_ an orr a0 a1 hw.d0 hw.d1 hw.o0 hw.o1 hr⟩
    obtain ⟨g, he, hW, hg, hb⟩ := h
    exact ⟨g, 7, he, Nat.le_refl _, whole_told hW rfl, hb⟩
  · omega

theorem backsF_5 (at_ n v an orr : Int) (hw : WideT at_ n v an orr 0 0 0) (hr : ({ fn := 5, at_ := at_, q := n, v := v, an := an, orr := orr } : TV).right) : BacksF ({ fn := 5, at_ := at_, q := n, v := v, an := an, orr := orr } : TV) m := by
  have hr2 := hr
  unfold TV.right tellP at hr2
  dsimp only at hr2
  have hq := hr2
  rcases hq with ⟨_, _, ⟨a0, a1⟩, hg, hs⟩ | ⟨hq, _⟩
  · unfold restT at hs
    unfold rangT at hg
    obtain rfl : n = 0 := by omega
    obtain rfl : an = 0 := by omega
    obtain rfl : orr = 0 := by omega
    have v0 := hw.v0
    rcases (by omega : v = 0 ∨ v = 1) with rfl | rfl
    · refine ⟨5, [5, at_ / 256, at_ % 256, 0, 0], by omega, by omega, (by intro y hy; simp at hy; omega), rfl, rfl, fun W BA bc WA wc OA oc _ _ _ => (pbG_5 at_ 0 0 0 0 BA WA OA bc wc oc W hw (by have h := hr; unfold TV.right at h; dsimp only at h; rw [fit0] at h; exact h)).mono fun e w' h => ?_, back_5_0 at_ a0 a1 hr⟩
      obtain ⟨g, he, hW, hg, hb⟩ := h
      exact ⟨g, 5, he, Nat.le_refl _, whole_told hW rfl, hb⟩
    · refine ⟨5, [5, at_ / 256, at_ % 256, 255, 0], by omega, by omega, (by intro y hy; simp at hy; omega), rfl, rfl, fun W BA bc WA wc OA oc _ _ _ => (pbG_5 at_ 0 1 0 0 BA WA OA bc wc oc W hw (by have h := hr; unfold TV.right at h; dsimp only at h; rw [fit0] at h; exact h)).mono fun e w' h => ?_, back_5_1 at_ a0 a1 hr⟩
      obtain ⟨g, he, hW, hg, hb⟩ := h
      exact ⟨g, 5, he, Nat.le_refl _, whole_told hW rfl, hb⟩
  · omega

theorem backsF_1 (k : Nat) (bs : List Bool) (hb : bs.length = k) (hk : 1 ≤ k ∧ k ≤ 2000) (hr : ({ fn := 1, bl := k, bs := bs } : TV).right) : BacksF ({ fn := 1, bl := k, bs := bs } : TV) (k : Int) := by
  have hn : nb k ≤ 250 ∧ 1 ≤ nb k := by unfold nb; omega
  refine ⟨2 + nb k, [1, ((nb k : Nat) : Int)] ++ pk bs k, by omega, by omega, ?_, ?_, rfl, fun W BA bc WA wc OA oc h1 _ _ => (pbL_1 k bs BA WA OA bc wc oc W hk h1).mono fun e w' h => ?_, back_1 k bs hb hk hr⟩
  · intro x hx
    rcases List.mem_append.1 hx with hx | hx
    · simp at hx
      omega
    · exact pk_bytes bs k x hx
  · rw [List.length_append, pk_length, hb]
    rfl
  · obtain ⟨n, C, cc, he, rfl, ho, hb2⟩ := h
    obtain ⟨g, rfl, hc, hrow⟩ := own_told ho (by omega)
    exact ⟨g, cc, he, hc, hrow, hb2⟩

theorem backsF_2 (k : Nat) (bs : List Bool) (hb : bs.length = k) (hk : 1 ≤ k ∧ k ≤ 2000) (hr : ({ fn := 2, bl := k, bs := bs } : TV).right) : BacksF ({ fn := 2, bl := k, bs := bs } : TV) (k : Int) := by
  have hn : nb k ≤ 250 ∧ 1 ≤ nb k := by unfold nb; omega
  refine ⟨2 + nb k, [2, ((nb k : Nat) : Int)] ++ pk bs k, by omega, by omega, ?_, ?_, rfl, fun W BA bc WA wc OA oc h1 _ _ => (pbL_2 k bs BA WA OA bc wc oc W hk h1).mono fun e w' h => ?_, back_2 k bs hb hk hr⟩
  · intro x hx
    rcases List.mem_append.1 hx with hx | hx
    · simp at hx
      omega
    · exact pk_bytes bs k x hx
  · rw [List.length_append, pk_length, hb]
    rfl
  · obtain ⟨n, C, cc, he, rfl, ho, hb2⟩ := h
    obtain ⟨g, rfl, hc, hrow⟩ := own_told ho (by omega)
    exact ⟨g, cc, he, hc, hrow, hb2⟩

theorem backsF_3 (k : Nat) (ws : List Int) (hb : ws.length = k) (hw : Words ws) (hk : 1 ≤ k ∧ k ≤ 125) (hr : ({ fn := 3, wl := k, ws := ws } : TV).right) : BacksF ({ fn := 3, wl := k, ws := ws } : TV) m := by
  refine ⟨2 + 2 * k, [3, ((2 * k : Nat) : Int)] ++ flat ws, by omega, by omega, ?_, ?_, rfl, fun W BA bc WA wc OA oc _ h2 _ => (pbL_3 k ws BA WA OA bc wc oc W hk h2 hw).mono fun e w' h => ?_, back_3 k ws hb hw hk hr⟩
  · intro x hx
    rcases List.mem_append.1 hx with hx | hx
    · simp at hx
      omega
    · exact flat_bytes ws hw x hx
  · rw [List.length_append, flat_len, hb]
    simp <;> omega
  · obtain ⟨n, C, cc, he, rfl, ho, hb2⟩ := h
    obtain ⟨g, rfl, hc, hrow⟩ := own_told ho (by omega)
    exact ⟨g, cc, he, hc, hrow, hb2⟩

theorem backsF_4 (k : Nat) (ws : List Int) (hb : ws.length = k) (hw : Words ws) (hk : 1 ≤ k ∧ k ≤ 125) (hr : ({ fn := 4, wl := k, ws := ws } : TV).right) : BacksF ({ fn := 4, wl := k, ws := ws } : TV) m := by
  refine ⟨2 + 2 * k, [4, ((2 * k : Nat) : Int)] ++ flat ws, by omega, by omega, ?_, ?_, rfl, fun W BA bc WA wc OA oc _ h2 _ => (pbL_4 k ws BA WA OA bc wc oc W hk h2 hw).mono fun e w' h => ?_, back_4 k ws hb hw hk hr⟩
  · intro x hx
    rcases List.mem_append.1 hx with hx | hx
    · simp at hx
      omega
    · exact flat_bytes ws hw x hx
  · rw [List.length_append, flat_len, hb]
    simp <;> omega
  · obtain ⟨n, C, cc, he, rfl, ho, hb2⟩ := h
    obtain ⟨g, rfl, hc, hrow⟩ := own_told ho (by omega)
    exact ⟨g, cc, he, hc, hrow, hb2⟩

theorem backsF_23 (k : Nat) (ws : List Int) (hb : ws.length = k) (hw : Words ws) (hk : 1 ≤ k ∧ k ≤ 125) (hr : ({ fn := 23, wl := k, ws := ws } : TV).right) : BacksF ({ fn := 23, wl := k, ws := ws } : TV) m := by
  refine ⟨2 + 2 * k, [23, ((2 * k : Nat) : Int)] ++ flat ws, by omega, by omega, ?_, ?_, rfl, fun W BA bc WA wc OA oc _ h2 _ => (pbL_23 k ws BA WA OA bc wc oc W hk h2 hw).mono fun e w' h => ?_, back_23 k ws hb hw hk hr⟩
  · intro x hx
    rcases List.mem_append.1 hx with hx | hx
    · simp at hx
      omega
    · exact flat_bytes ws hw x hx
  · rw [List.length_append, flat_len, hb]
    simp <;> omega
  · obtain ⟨n, C, cc, he, rfl, ho, hb2⟩ := h
    obtain ⟨g, rfl, hc, hrow⟩ := own_told ho (by omega)
    exact ⟨g, cc, he, hc, hrow, hb2⟩

end

theorem pfail_any (fn ex : Int) (w : World) :
    Calls Try.prog 17 #[.int .i64 fn, .int .i64 ex] w fun e w' => e = .returned (.agg #[.int .i64 fn, .int .i64 ex, .slice none 0 0, .slice none 0 0, .int .i64 0, .int .i64 0, .int .u16 0, .int .u16 0, .int .u16 0, .int .i64 0, .int .i64 0, .bool false, .int .i64 0, .slice none 0 0]) ∧ Below w.heap.size w w' := by
  go_enter Try.func17, Try.ntmps17
  go_wp2
  exact bodyPost_ret (v := .agg #[.int .i64 fn, .int .i64 ex, .slice none 0 0, .slice none 0 0, .int .i64 0, .int .i64 0, .int .u16 0, .int .u16 0, .int .u16 0, .int .i64 0, .int .i64 0, .bool false, .int .i64 0, .slice none 0 0]) (by simp [results, Try.results17, go_sem]) rfl ⟨rfl, (Below.refl _ _).alloc (Nat.le_refl _) _⟩
theorem wide0 : WideT 0 0 0 0 0 0 0 0 := by constructor <;> omega
/-- Parse of an exception's two bytes. -/
theorem pparse_exc (A : Option Addr) (c : Nat) (m : Int) (w : World) (f x : Int) (zs : List Int) (hr : Row .u8 w w.heap.size A 2 zs) (hx : Bytes8 zs) (h0 : zs.getD 0 0 = f) (hf : 128 ≤ f) (h1 : zs.getD 1 0 = x) (hz : x = 1 ∨ x = 2 ∨ x = 3 ∨ x = 4 ∨ x = 6) :
    Calls Try.prog 8 #[.slice A 2 c, .int .i64 m] w fun e w' => ∃ BA bc WA wc OA oc, e = .returned (.tuple #[.agg #[.int .i64 (f - 128), .int .i64 x, .slice BA 0 bc, .slice WA 0 wc, .int .i64 0, .int .i64 0, .int .u16 0, .int .u16 0, .int .u16 0, .int .i64 0, .int .i64 0, .bool false, .int .i64 0, .slice OA 0 oc], .int .i64 0]) ∧ Below w.heap.size w w' := by
  have hbf := hx.at_ 0
  change 0 ≤ zs.getD 0 0 ∧ zs.getD 0 0 ≤ 255 at hbf
  rw [h0] at hbf
  refine (pp_ok A 2 c m w (f - 128) x 0 0 0 0 0 0 0 0 0 false 0 0 true (fun _ _ _ _ _ _ _ _ => True) ?_ (fun _ _ _ _ _ _ _ _ _ _ _ => trivial) (fun _ _ _ _ _ _ _ _ _ _ _ _ => trivial) (fun _ X _ _ _ _ OA oc _ => fits_nil X OA oc) wide0 (decide_eq_true ((tell_exc (by omega)).2 ⟨hz, by omega, by decide⟩))).mono fun e w' ⟨BA, bc, WA, wc, OA, oc, h1, _, h3⟩ => ⟨BA, bc, WA, wc, OA, oc, h1, h3⟩
  intro W hW
  refine (pfT_exc A 2 c zs m W f x ((hr.below hW).more hW.size) hx rfl h0 hf h1).mono fun e w' ⟨he, hb⟩ => ⟨none, 0, none, 0, none, 0, ?_, trivial, hb⟩
  rw [he, decide_eq_true (show x ≠ 0 by omega)]

theorem bits5 : unb ([1, 1, 5].drop 2) 3 = [true, false, true] := by decide +kernel
/-- The chapter's example of bits. -/
theorem parse_bits (A : Option Addr) (w : World) (hr : Row .u8 w w.heap.size A 3 [1, 1, 5]) :
    Calls Try.prog 8 #[.slice A 3 3, .int .i64 3] w fun e w' => ∃ BA bc WA wc OA oc, e = .returned (.tuple #[.agg #[.int .i64 1, .int .i64 0, .slice BA 3 bc, .slice WA 0 wc, .int .i64 0, .int .i64 0, .int .u16 0, .int .u16 0, .int .u16 0, .int .i64 0, .int .i64 0, .bool false, .int .i64 0, .slice OA 0 oc], .int .i64 0]) ∧ w'.ownsRow (w.heap.size + 1) 4 1 (.slice BA 3 bc) 3 ([true, false, true].map Value.bool) ∧ Below w.heap.size w w' := by
  obtain ⟨b, off, rfl, _⟩ := hr.2 (by omega)
  refine (pp_ok (some ⟨b, off, none⟩) 3 3 3 w 1 0 3 0 0 0 0 0 0 0 0 false 0 0 true (fun base X BA bc _ _ _ _ => X.ownsRow base 4 1 (.slice BA 3 bc) 3 ([true, false, true].map Value.bool)) ?_ (fun _ _ _ _ _ _ _ _ _ h hb => own_keep h hb) (fun _ _ p u _ _ _ _ _ _ h hp => own_far h p hp u) (fun _ X _ _ _ _ OA oc _ => fits_nil X OA oc) wide0 (by decide))
  intro W hW
  refine (pfl_b_yes_1 b off 3 3 [1, 1, 5] 3 _ _ 1 3 W ((hr.below hW).more hW.size) (by intro x hx; simp at hx; omega) (by omega) rfl (by omega) (by omega) rfl rfl rfl rfl rfl rfl).mono ?_
  rintro e w' ⟨G, g, rfl, ho, hb⟩
  rw [bits5] at ho
  exact ⟨G, g, none, 0, none, 0, rfl, ho, hb⟩

theorem exc_str : strOfNums [131, 2] = ⟨#[131, 2]⟩ := by decide +kernel

set_option maxRecDepth 100000 in
set_option maxHeartbeats 1000000 in
theorem awake_any (w : World) : Calls Try.prog 5 #[] w fun e w' => e = .returned (.bool true) ∧ Below w.heap.size w w' := by
  go_enter Try.func5, Try.ntmps5
  go_wp2_with (first
    | (go_at_call 17; refine (pfail_any 3 2 _).mono ?_; rintro e w0 ⟨rfl, hb0⟩; have HB0 := Lib.hid hb0; clear hb0)
    | (go_at_call 7
       refine (pbT_exc 3 2 0 0 0 0 0 0 0 0 0 false 0 0 none none none 0 0 0 _ true wide0 (by omega) (by decide)).mono ?_
       rintro e w1 ⟨g1, rfl, hg1, hgs, hb1⟩
       have HB1 := Lib.hid hb1
       have HG1 := Lib.hid hg1
       clear hb1 hg1))
  refine (parse_bits _ _ (by
    have h := heap_alloc_new w1 (.cells #[.int .u8 1, .int .u8 1, .int .u8 5] 5)
    have h2 : Whole .u8 (w1.alloc (.cells #[.int .u8 1, .int .u8 1, .int .u8 5] 5)) w1.heap.size 5 [1, 1, 5] := h
    exact h2.row)).mono ?_
  rintro e w2 ⟨BA, bc, WA, wc, OA, oc, rfl, ho, hb2⟩
  obtain ⟨g2, c2, hv2, hg2, hr2⟩ := row_of_own ho (by omega)
  injection hv2 with hv3 hv4 hv5
  subst hv3 hv5
  obtain ⟨ad, had, hlt, hcells⟩ := hr2.src (by omega)
  injection had with had
  subst had
  have hk0 := hcells 0 (.bool true) rfl
  have hk1 := hcells 1 (.bool false) rfl
  have hk2 := hcells 2 (.bool true) rfl
  rw [add_none] at hk0 hk1 hk2
  have hlt2 : g2 < w2.heap.size := hlt
  have hb3 : Below w1.heap.size w1 (w2.alloc (.cells #[.int .i64 1, .int .i64 0, .slice (some ⟨g2, 0, none⟩) 3 bc, .slice WA 0 wc, .int .i64 0, .int .i64 0, .int .u16 0, .int .u16 0, .int .u16 0, .int .i64 0, .int .i64 0, .bool false, .int .i64 0, .slice OA 0 oc] 28)) := (((Below.refl _ _).alloc (Nat.le_refl _) _).trans (hb2.mono (by simp))).alloc (by have := hb2.size; simp at this; omega) _
  have hc := conv_row _ 2 2 [131, 2] _ ((HG1.out.row.below hb3).more hb3.size)
  rw [exc_str] at hc
  have HB3 := Lib.hid (HB0.out.trans ((HB1.out.trans (hb3.mono HB1.out.size)).mono HB0.out.size))
  clear hb3 hb2 ho hr2 hg2 hlt hcells
  go_wp2_with fail
  go_ret
  exact ⟨rfl, HB3.out⟩

end Go.Proofs.Ytielfekkonflfaa

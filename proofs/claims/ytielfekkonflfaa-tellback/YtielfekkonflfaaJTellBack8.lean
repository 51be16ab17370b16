/- Joined: PFl3 PDev PFl6 PDev7 PFl7 PFl4. -/
import Derived.Test.YtielfekkonflfaaJTellBack5
import Derived.Test.YtielfekkonflfaaJTellBack2
import Derived.Deep.CutBlock
import Derived.Deep.RegionLaw
import Derived.Test.YtielfekkonflfaaPBox14
import Derived.Deep.RegionHeld3
namespace Go.Proofs.Ytielfekkonflfaa
open Go.ChangeShapes Go.WideShapes Go.ChangeAt Go.RowKit
set_option linter.unusedVariables false
set_option linter.unusedSimpArgs false

set_option maxRecDepth 100000 in
set_option maxHeartbeats 4000000 in
theorem pfl_w_yes_3 (b off n c : Nat) (zs : List Int) (m p q : Int) (t : Nat) (k : Nat) (w : World) (hr : Row .u8 w w.heap.size (some ⟨b, off, none⟩) n zs) (hx : Bytes8 zs) (hn : n ≤ 1000) (h0 : zs.getD 0 0 = 3) (hc : n ≤ c) (hc2 : c ≠ 2) (hp : gotW zs n 1 = p) (hq : gotW zs n 3 = q) (hu : zs.getD 1 0 = (t : Int)) (hnt : n = 2 + t) (hk2 : t = 2 * k) :
    Calls Try.prog 26 #[.slice (some ⟨b, off, none⟩) n c, .int .i64 m] w fun e w' => ∃ G g, e = .returned (.tuple #[.agg #[.int .i64 3, .int .i64 0, .slice none 0 0, .slice G k g, .int .i64 0, .int .i64 0, .int .u16 0, .int .u16 0, .int .u16 0, .int .i64 0, .int .i64 0, .bool false, .int .i64 0, .slice none 0 0], .bool true]) ∧ w'.ownsRow w.heap.size 25 1 (.slice G k g) k ((wordsAt (zs.drop 2) 0 k).map (Value.int .u16)) ∧ Below w.heap.size w w' := by
  have h2n : 2 ≤ n := by omega
  obtain ⟨lop, hip⟩ := gotW_bounds hx n 1
  rw [hp] at lop hip
  obtain ⟨loq, hiq⟩ := gotW_bounds hx n 3
  rw [hq] at loq hiq
  obtain ⟨b', off', e1, hb, hcell⟩ := hr.2 (by omega)
  injection e1 with e1
  injection e1 with e1 e2
  subst e1 e2
  obtain ⟨hkw1, hkw, hg4, hg2⟩ := box2 w 28 [.int .i64 0, .int .i64 0, .slice none 0 0, .slice none 0 0, .int .i64 0, .int .i64 0, .int .u16 0, .int .u16 0, .int .u16 0, .int .i64 0, .int .i64 0, .bool false, .int .i64 0, .slice none 0 0] [.int .i64 3, .int .i64 0, .slice none 0 0, .slice none 0 0, .int .i64 0, .int .i64 0, .int .u16 0, .int .u16 0, .int .u16 0, .int .i64 0, .int .i64 0, .bool false, .int .i64 0, .slice none 0 0]
  have HCE := Lib.hid (fun X (hX : Below w.heap.size w X) j (hj : j < n) => (hX.cell (p := ⟨b, off + j, none⟩) hb).trans (hcell j hj))
  have hc0 := HCE.out _ hkw1 0 (by omega)
  rw [Nat.add_zero, h0] at hc0
  have hc0b := HCE.out _ hkw 0 (by omega)
  rw [Nat.add_zero, h0] at hc0b
  have HRG := Lib.hid (fun X (hX : Below w.heap.size w X) => (hr.below hX).more hX.size)
  have HTL := Lib.hid (fun X (hX : Below w.heap.size w X) => (((hr.below hX).more hX.size : Row .u8 X X.heap.size (some ⟨b, off, none⟩) n zs)).tail (l := 2) (q := n - 2) (by omega))
  have HX := Lib.hid hx
  have HKW := Lib.hid hkw
  have HG4 := Lib.hid hg4
  have HG2 := Lib.hid hg2
  clear hg4 hg2
  have HSZ := Lib.hid (fun W (hW : Below w.heap.size w W) => show Calls Try.prog 51 #[.slice (some ⟨b, off, none⟩) n c] W (fun e w1 => e = .returned (.int .i64 (n : Int)) ∧ W = w1) from by have h := psz_list (some ⟨b, off, none⟩) n c zs W 3 (t : Int) (HRG.out W hW) hx hn (by omega) h0 (by omega) hu; rw [show (n : Int) = 2 + (t : Int) by omega]; exact h)
  have CN1 := Lib.hid (fun W (hW : Below w.heap.size w W) => pnumber_any (some ⟨b, off, none⟩) n c zs 1 p W hp (HRG.out W hW) hx (by omega))
  have CN3 := Lib.hid (fun W (hW : Below w.heap.size w W) => pnumber_any (some ⟨b, off, none⟩) n c zs 3 q W hq (HRG.out W hW) hx (by omega))
  have hn0 : (0 : Int) < (n : Int) := by omega
  have hn1 : (1 : Int) < (n : Int) := by omega
  have hl2 : ¬ (n : Int) < 2 := by omega
  have h2c : (2 : Int) ≤ (n : Int) := by omega
  have h2d : ¬ c = 2 := by omega
  have ea : bits .andNot .u8 3 128 = 3 := by rw [andNot128 _ (by omega) (by omega)]; omega
  have wp : IntKind.u16.wrap p = p := IntWalk.u16_in _ (by omega)
  have wq : IntKind.u16.wrap q = q := IntWalk.u16_in _ (by omega)
  have eb : bits .and .u8 3 128 = 0 := by rw [and128 _ (by omega) (by omega)]; omega
  have hn2t : n - 2 = t := by omega
  have HNT := Lib.hid hnt
  rw [hn2t] at HTL
  have hc1 := HCE.out
  clear hc1
  have CU := Lib.hid (fun (d : Nat) W (hW : Below w.heap.size w W) => (punpacked_yes (some ⟨b, off + 2, none⟩) k t d ((t : Int) / 2) (zs.drop 2) W hk2 (by omega) (HTL.out W hW) (hx.drop 2) (by omega)).mono fun e w' h => (show ∃ G g, e = .returned (.tuple #[.slice G k g, .bool true]) ∧ w'.ownsRow W.heap.size 25 1 (.slice G k g) k ((wordsAt (zs.drop 2) 0 k).map (Value.int .u16)) ∧ Below W.heap.size W w' from ⟨_, _, h.1, own_of_whole h.2.1 (Nat.le_refl _) (by rw [List.length_map, wordsAt_length]) (by omega), h.2.2⟩))
  have hc1t := fun X hX => (HCE.out X hX 1 (by omega)).trans (by rw [hu])
  have HC1 := Lib.hid hc1t
  have ht255 : t ≤ 255 := by have := (hx.at_ 1).2; change zs.getD 1 0 ≤ 255 at this; omega
  have wti : IntKind.i64.wrap (t : Int) = (t : Int) := IntWalk.i64_in _ (by omega)
  clear hc1t hnt hu hk2
  have HP := Lib.hid hp
  have HQ := Lib.hid hq
  have H0 := Lib.hid h0
  clear hr hx hcell hkw hkw1 hp hq h0
  go_enter Try.func26, Try.ntmps26
  go_upto_region 8 with (first
    | (go_at_call 51
       (with_reducible refine (HSZ.out _ ?_).mono ?_)
       · exact (Below.refl _ _).alloc (Nat.le_refl _) _
       rintro e w' ⟨rfl, rfl⟩)
    | (go_at_call 52
       (with_reducible refine (CN1.out _ ?_).mono ?_)
       · first | exact HKW.out | exact below_drewN HKW.out _
       rintro e w' ⟨rfl, d1, rfl⟩)
    | (go_at_call 52
       (with_reducible refine (CN3.out _ ?_).mono ?_)
       · first | exact HKW.out | exact below_drewN HKW.out _
       rintro e w' ⟨rfl, d3, rfl⟩))
  obtain ⟨w3, hw3, G4, G2, GB⟩ := named HG4 HG2 HKW (d1 + d3)
  have hz3 : w.heap.size + 1 < w3.heap.size := G4.out.lt
  obtain ⟨hs0, hs1, hs2, hs3, hs4, hs5, hs6, hs7, hs8, hs9, hs10, hs11, hs12, hs13⟩ := cells14 G4.out
  obtain ⟨hp0, hp1, hp2, hp3, hp4, hp5, hp6, hp7, hp8, hp9, hp10, hp11, hp12, hp13⟩ := cells14 G2.out
  obtain ⟨hf0, hf1, hf2, hf3, hf4, hf5, hf6, hf7, hf8, hf9, hf10, hf11, hf12, hf13⟩ := frozen14 G4.out
  obtain ⟨hg0, hg1, hg2, hg3, hg4, hg5, hg6, hg7, hg8, hg9, hg10, hg11, hg12, hg13⟩ := frozen14 G2.out
  rw [hw3]
  clear hw3 hc0 hc0b HSZ CN1 CN3
  have hcw : w3.cell? ⟨b, off + 1, none⟩ = some (.int .u8 (t : Int)) := HC1.out w3 GB.out
  go_upto_region 21 with fail
  go_region_law (first
    | (go_simp; go_at_call 54
       (with_reducible refine (CU.out _ _ ?_).mono ?_)
       · first | exact GB.out | exact GB.out.drew | exact below_drewN GB.out _
       rintro e w5 ⟨G, g, rfl, ho5, hb5⟩
       have hb5' : Below w3.heap.size w3 w5 := by first | exact hb5 | exact (Below.refl _ _).drew.trans hb5
       have h1 := G4.out.below hb5' G4.out.lt
       have h0' := G2.out.below hb5' G2.out.lt
       have HB5 : Hid (Below w.heap.size w w5) := GB.out.trans (hb5'.mono GB.out.size)
       have hz5 : w.heap.size + 1 < w5.heap.size := h1.lt
       obtain ⟨ks0, ks1, ks2, ks3, ks4, ks5, ks6, ks7, ks8, ks9, ks10, ks11, ks12, ks13⟩ := cells14 h1
       obtain ⟨kp0, kp1, kp2, kp3, kp4, kp5, kp6, kp7, kp8, kp9, kp10, kp11, kp12, kp13⟩ := cells14 h0'
       obtain ⟨kf0, kf1, kf2, kf3, kf4, kf5, kf6, kf7, kf8, kf9, kf10, kf11, kf12, kf13⟩ := frozen14 h1
       obtain ⟨kg0, kg1, kg2, kg3, kg4, kg5, kg6, kg7, kg8, kg9, kg10, kg11, kg12, kg13⟩ := frozen14 h0'
       have HH1 := Lib.hid h1
       have HH0 := Lib.hid h0'
       have HO5 : Hid (w5.ownsRow (w.heap.size + 2) 25 1 (.slice G k g) k ((wordsAt (zs.drop 2) 0 k).map (Value.int .u16))) := own_mono ho5 (show w.heap.size + 2 ≤ w3.heap.size by omega)
       clear h1 h0' hb5 hb5' ho5))
  all_goals
    go_wp2_with fail
    obtain ⟨X, hX⟩ : ∃ X, (w5.setCell ⟨w.heap.size + 1, 3, none⟩ (.slice G k g)) = X := ⟨_, rfl⟩
    have hx0 := (whole_far HH0.out (show w.heap.size ≠ w.heap.size + 1 by omega) 3 (.slice G k g))
    have hxb := (HB5.out.setCell (p := ⟨w.heap.size + 1, 3, none⟩) (Nat.le_succ _) (.slice G k g))
    have hox := (own_far HO5.out ⟨w.heap.size + 1, 3, none⟩ (show w.heap.size + 1 < w.heap.size + 2 by omega) (.slice G k g))
    rw [hX] at hx0 hxb hox
    rw [hX]
    exact end14 Try.results26 hx0 rfl hxb (Nat.le_refl _) rfl rfl fun w9 hbb hk => ⟨_, _, rfl, own_mono (own_blk hox hk (show w.heap.size < w.heap.size + 2 by omega)) (by omega), hbb⟩

set_option maxRecDepth 100000 in
set_option maxHeartbeats 4000000 in
theorem pfl_w_yes_4 (b off n c : Nat) (zs : List Int) (m p q : Int) (t : Nat) (k : Nat) (w : World) (hr : Row .u8 w w.heap.size (some ⟨b, off, none⟩) n zs) (hx : Bytes8 zs) (hn : n ≤ 1000) (h0 : zs.getD 0 0 = 4) (hc : n ≤ c) (hc2 : c ≠ 2) (hp : gotW zs n 1 = p) (hq : gotW zs n 3 = q) (hu : zs.getD 1 0 = (t : Int)) (hnt : n = 2 + t) (hk2 : t = 2 * k) :
    Calls Try.prog 26 #[.slice (some ⟨b, off, none⟩) n c, .int .i64 m] w fun e w' => ∃ G g, e = .returned (.tuple #[.agg #[.int .i64 4, .int .i64 0, .slice none 0 0, .slice G k g, .int .i64 0, .int .i64 0, .int .u16 0, .int .u16 0, .int .u16 0, .int .i64 0, .int .i64 0, .bool false, .int .i64 0, .slice none 0 0], .bool true]) ∧ w'.ownsRow w.heap.size 25 1 (.slice G k g) k ((wordsAt (zs.drop 2) 0 k).map (Value.int .u16)) ∧ Below w.heap.size w w' := by
  have h2n : 2 ≤ n := by omega
  obtain ⟨lop, hip⟩ := gotW_bounds hx n 1
  rw [hp] at lop hip
  obtain ⟨loq, hiq⟩ := gotW_bounds hx n 3
  rw [hq] at loq hiq
  obtain ⟨b', off', e1, hb, hcell⟩ := hr.2 (by omega)
  injection e1 with e1
  injection e1 with e1 e2
  subst e1 e2
  obtain ⟨hkw1, hkw, hg4, hg2⟩ := box2 w 28 [.int .i64 0, .int .i64 0, .slice none 0 0, .slice none 0 0, .int .i64 0, .int .i64 0, .int .u16 0, .int .u16 0, .int .u16 0, .int .i64 0, .int .i64 0, .bool false, .int .i64 0, .slice none 0 0] [.int .i64 4, .int .i64 0, .slice none 0 0, .slice none 0 0, .int .i64 0, .int .i64 0, .int .u16 0, .int .u16 0, .int .u16 0, .int .i64 0, .int .i64 0, .bool false, .int .i64 0, .slice none 0 0]
  have HCE := Lib.hid (fun X (hX : Below w.heap.size w X) j (hj : j < n) => (hX.cell (p := ⟨b, off + j, none⟩) hb).trans (hcell j hj))
  have hc0 := HCE.out _ hkw1 0 (by omega)
  rw [Nat.add_zero, h0] at hc0
  have hc0b := HCE.out _ hkw 0 (by omega)
  rw [Nat.add_zero, h0] at hc0b
  have HRG := Lib.hid (fun X (hX : Below w.heap.size w X) => (hr.below hX).more hX.size)
  have HTL := Lib.hid (fun X (hX : Below w.heap.size w X) => (((hr.below hX).more hX.size : Row .u8 X X.heap.size (some ⟨b, off, none⟩) n zs)).tail (l := 2) (q := n - 2) (by omega))
  have HX := Lib.hid hx
  have HKW := Lib.hid hkw
  have HG4 := Lib.hid hg4
  have HG2 := Lib.hid hg2
  clear hg4 hg2
  have HSZ := Lib.hid (fun W (hW : Below w.heap.size w W) => show Calls Try.prog 51 #[.slice (some ⟨b, off, none⟩) n c] W (fun e w1 => e = .returned (.int .i64 (n : Int)) ∧ W = w1) from by have h := psz_list (some ⟨b, off, none⟩) n c zs W 4 (t : Int) (HRG.out W hW) hx hn (by omega) h0 (by omega) hu; rw [show (n : Int) = 2 + (t : Int) by omega]; exact h)
  have CN1 := Lib.hid (fun W (hW : Below w.heap.size w W) => pnumber_any (some ⟨b, off, none⟩) n c zs 1 p W hp (HRG.out W hW) hx (by omega))
  have CN3 := Lib.hid (fun W (hW : Below w.heap.size w W) => pnumber_any (some ⟨b, off, none⟩) n c zs 3 q W hq (HRG.out W hW) hx (by omega))
  have hn0 : (0 : Int) < (n : Int) := by omega
  have hn1 : (1 : Int) < (n : Int) := by omega
  have hl2 : ¬ (n : Int) < 2 := by omega
  have h2c : (2 : Int) ≤ (n : Int) := by omega
  have h2d : ¬ c = 2 := by omega
  have ea : bits .andNot .u8 4 128 = 4 := by rw [andNot128 _ (by omega) (by omega)]; omega
  have wp : IntKind.u16.wrap p = p := IntWalk.u16_in _ (by omega)
  have wq : IntKind.u16.wrap q = q := IntWalk.u16_in _ (by omega)
  have eb : bits .and .u8 4 128 = 0 := by rw [and128 _ (by omega) (by omega)]; omega
  have hn2t : n - 2 = t := by omega
  have HNT := Lib.hid hnt
  rw [hn2t] at HTL
  have hc1 := HCE.out
  clear hc1
  have CU := Lib.hid (fun (d : Nat) W (hW : Below w.heap.size w W) => (punpacked_yes (some ⟨b, off + 2, none⟩) k t d ((t : Int) / 2) (zs.drop 2) W hk2 (by omega) (HTL.out W hW) (hx.drop 2) (by omega)).mono fun e w' h => (show ∃ G g, e = .returned (.tuple #[.slice G k g, .bool true]) ∧ w'.ownsRow W.heap.size 25 1 (.slice G k g) k ((wordsAt (zs.drop 2) 0 k).map (Value.int .u16)) ∧ Below W.heap.size W w' from ⟨_, _, h.1, own_of_whole h.2.1 (Nat.le_refl _) (by rw [List.length_map, wordsAt_length]) (by omega), h.2.2⟩))
  have hc1t := fun X hX => (HCE.out X hX 1 (by omega)).trans (by rw [hu])
  have HC1 := Lib.hid hc1t
  have ht255 : t ≤ 255 := by have := (hx.at_ 1).2; change zs.getD 1 0 ≤ 255 at this; omega
  have wti : IntKind.i64.wrap (t : Int) = (t : Int) := IntWalk.i64_in _ (by omega)
  clear hc1t hnt hu hk2
  have HP := Lib.hid hp
  have HQ := Lib.hid hq
  have H0 := Lib.hid h0
  clear hr hx hcell hkw hkw1 hp hq h0
  go_enter Try.func26, Try.ntmps26
  go_upto_region 8 with (first
    | (go_at_call 51
       (with_reducible refine (HSZ.out _ ?_).mono ?_)
       · exact (Below.refl _ _).alloc (Nat.le_refl _) _
       rintro e w' ⟨rfl, rfl⟩)
    | (go_at_call 52
       (with_reducible refine (CN1.out _ ?_).mono ?_)
       · first | exact HKW.out | exact below_drewN HKW.out _
       rintro e w' ⟨rfl, d1, rfl⟩)
    | (go_at_call 52
       (with_reducible refine (CN3.out _ ?_).mono ?_)
       · first | exact HKW.out | exact below_drewN HKW.out _
       rintro e w' ⟨rfl, d3, rfl⟩))
  obtain ⟨w3, hw3, G4, G2, GB⟩ := named HG4 HG2 HKW (d1 + d3)
  have hz3 : w.heap.size + 1 < w3.heap.size := G4.out.lt
  obtain ⟨hs0, hs1, hs2, hs3, hs4, hs5, hs6, hs7, hs8, hs9, hs10, hs11, hs12, hs13⟩ := cells14 G4.out
  obtain ⟨hp0, hp1, hp2, hp3, hp4, hp5, hp6, hp7, hp8, hp9, hp10, hp11, hp12, hp13⟩ := cells14 G2.out
  obtain ⟨hf0, hf1, hf2, hf3, hf4, hf5, hf6, hf7, hf8, hf9, hf10, hf11, hf12, hf13⟩ := frozen14 G4.out
  obtain ⟨hg0, hg1, hg2, hg3, hg4, hg5, hg6, hg7, hg8, hg9, hg10, hg11, hg12, hg13⟩ := frozen14 G2.out
  rw [hw3]
  clear hw3 hc0 hc0b HSZ CN1 CN3
  have hcw : w3.cell? ⟨b, off + 1, none⟩ = some (.int .u8 (t : Int)) := HC1.out w3 GB.out
  go_upto_region 21 with fail
  go_region_law (first
    | (go_simp; go_at_call 54
       (with_reducible refine (CU.out _ _ ?_).mono ?_)
       · first | exact GB.out | exact GB.out.drew | exact below_drewN GB.out _
       rintro e w5 ⟨G, g, rfl, ho5, hb5⟩
       have hb5' : Below w3.heap.size w3 w5 := by first | exact hb5 | exact (Below.refl _ _).drew.trans hb5
       have h1 := G4.out.below hb5' G4.out.lt
       have h0' := G2.out.below hb5' G2.out.lt
       have HB5 : Hid (Below w.heap.size w w5) := GB.out.trans (hb5'.mono GB.out.size)
       have hz5 : w.heap.size + 1 < w5.heap.size := h1.lt
       obtain ⟨ks0, ks1, ks2, ks3, ks4, ks5, ks6, ks7, ks8, ks9, ks10, ks11, ks12, ks13⟩ := cells14 h1
       obtain ⟨kp0, kp1, kp2, kp3, kp4, kp5, kp6, kp7, kp8, kp9, kp10, kp11, kp12, kp13⟩ := cells14 h0'
       obtain ⟨kf0, kf1, kf2, kf3, kf4, kf5, kf6, kf7, kf8, kf9, kf10, kf11, kf12, kf13⟩ := frozen14 h1
       obtain ⟨kg0, kg1, kg2, kg3, kg4, kg5, kg6, kg7, kg8, kg9, kg10, kg11, kg12, kg13⟩ := frozen14 h0'
       have HH1 := Lib.hid h1
       have HH0 := Lib.hid h0'
       have HO5 : Hid (w5.ownsRow (w.heap.size + 2) 25 1 (.slice G k g) k ((wordsAt (zs.drop 2) 0 k).map (Value.int .u16))) := own_mono ho5 (show w.heap.size + 2 ≤ w3.heap.size by omega)
       clear h1 h0' hb5 hb5' ho5))
  all_goals
    go_wp2_with fail
    obtain ⟨X, hX⟩ : ∃ X, (w5.setCell ⟨w.heap.size + 1, 3, none⟩ (.slice G k g)) = X := ⟨_, rfl⟩
    have hx0 := (whole_far HH0.out (show w.heap.size ≠ w.heap.size + 1 by omega) 3 (.slice G k g))
    have hxb := (HB5.out.setCell (p := ⟨w.heap.size + 1, 3, none⟩) (Nat.le_succ _) (.slice G k g))
    have hox := (own_far HO5.out ⟨w.heap.size + 1, 3, none⟩ (show w.heap.size + 1 < w.heap.size + 2 by omega) (.slice G k g))
    rw [hX] at hx0 hxb hox
    rw [hX]
    exact end14 Try.results26 hx0 rfl hxb (Nat.le_refl _) rfl rfl fun w9 hbb hk => ⟨_, _, rfl, own_mono (own_blk hox hk (show w.heap.size < w.heap.size + 2 by omega)) (by omega), hbb⟩

set_option maxRecDepth 100000 in
set_option maxHeartbeats 4000000 in
theorem pfl_w_yes_23 (b off n c : Nat) (zs : List Int) (m p q : Int) (t : Nat) (k : Nat) (w : World) (hr : Row .u8 w w.heap.size (some ⟨b, off, none⟩) n zs) (hx : Bytes8 zs) (hn : n ≤ 1000) (h0 : zs.getD 0 0 = 23) (hc : n ≤ c) (hc2 : c ≠ 2) (hp : gotW zs n 1 = p) (hq : gotW zs n 3 = q) (hu : zs.getD 1 0 = (t : Int)) (hnt : n = 2 + t) (hk2 : t = 2 * k) :
    Calls Try.prog 26 #[.slice (some ⟨b, off, none⟩) n c, .int .i64 m] w fun e w' => ∃ G g, e = .returned (.tuple #[.agg #[.int .i64 23, .int .i64 0, .slice none 0 0, .slice G k g, .int .i64 0, .int .i64 0, .int .u16 0, .int .u16 0, .int .u16 0, .int .i64 0, .int .i64 0, .bool false, .int .i64 0, .slice none 0 0], .bool true]) ∧ w'.ownsRow w.heap.size 25 1 (.slice G k g) k ((wordsAt (zs.drop 2) 0 k).map (Value.int .u16)) ∧ Below w.heap.size w w' := by
  have h2n : 2 ≤ n := by omega
  obtain ⟨lop, hip⟩ := gotW_bounds hx n 1
  rw [hp] at lop hip
  obtain ⟨loq, hiq⟩ := gotW_bounds hx n 3
  rw [hq] at loq hiq
  obtain ⟨b', off', e1, hb, hcell⟩ := hr.2 (by omega)
  injection e1 with e1
  injection e1 with e1 e2
  subst e1 e2
  obtain ⟨hkw1, hkw, hg4, hg2⟩ := box2 w 28 [.int .i64 0, .int .i64 0, .slice none 0 0, .slice none 0 0, .int .i64 0, .int .i64 0, .int .u16 0, .int .u16 0, .int .u16 0, .int .i64 0, .int .i64 0, .bool false, .int .i64 0, .slice none 0 0] [.int .i64 23, .int .i64 0, .slice none 0 0, .slice none 0 0, .int .i64 0, .int .i64 0, .int .u16 0, .int .u16 0, .int .u16 0, .int .i64 0, .int .i64 0, .bool false, .int .i64 0, .slice none 0 0]
  have HCE := Lib.hid (fun X (hX : Below w.heap.size w X) j (hj : j < n) => (hX.cell (p := ⟨b, off + j, none⟩) hb).trans (hcell j hj))
  have hc0 := HCE.out _ hkw1 0 (by omega)
  rw [Nat.add_zero, h0] at hc0
  have hc0b := HCE.out _ hkw 0 (by omega)
  rw [Nat.add_zero, h0] at hc0b
  have HRG := Lib.hid (fun X (hX : Below w.heap.size w X) => (hr.below hX).more hX.size)
  have HTL := Lib.hid (fun X (hX : Below w.heap.size w X) => (((hr.below hX).more hX.size : Row .u8 X X.heap.size (some ⟨b, off, none⟩) n zs)).tail (l := 2) (q := n - 2) (by omega))
  have HX := Lib.hid hx
  have HKW := Lib.hid hkw
  have HG4 := Lib.hid hg4
  have HG2 := Lib.hid hg2
  clear hg4 hg2
  have HSZ := Lib.hid (fun W (hW : Below w.heap.size w W) => show Calls Try.prog 51 #[.slice (some ⟨b, off, none⟩) n c] W (fun e w1 => e = .returned (.int .i64 (n : Int)) ∧ W = w1) from by have h := psz_list (some ⟨b, off, none⟩) n c zs W 23 (t : Int) (HRG.out W hW) hx hn (by omega) h0 (by omega) hu; rw [show (n : Int) = 2 + (t : Int) by omega]; exact h)
  have CN1 := Lib.hid (fun W (hW : Below w.heap.size w W) => pnumber_any (some ⟨b, off, none⟩) n c zs 1 p W hp (HRG.out W hW) hx (by omega))
  have CN3 := Lib.hid (fun W (hW : Below w.heap.size w W) => pnumber_any (some ⟨b, off, none⟩) n c zs 3 q W hq (HRG.out W hW) hx (by omega))
  have hn0 : (0 : Int) < (n : Int) := by omega
  have hn1 : (1 : Int) < (n : Int) := by omega
  have hl2 : ¬ (n : Int) < 2 := by omega
  have h2c : (2 : Int) ≤ (n : Int) := by omega
  have h2d : ¬ c = 2 := by omega
  have ea : bits .andNot .u8 23 128 = 23 := by rw [andNot128 _ (by omega) (by omega)]; omega
  have wp : IntKind.u16.wrap p = p := IntWalk.u16_in _ (by omega)
  have wq : IntKind.u16.wrap q = q := IntWalk.u16_in _ (by omega)
  have eb : bits .and .u8 23 128 = 0 := by rw [and128 _ (by omega) (by omega)]; omega
  have hn2t : n - 2 = t := by omega
  have HNT := Lib.hid hnt
  rw [hn2t] at HTL
  have hc1 := HCE.out
  clear hc1
  have CU := Lib.hid (fun (d : Nat) W (hW : Below w.heap.size w W) => (punpacked_yes (some ⟨b, off + 2, none⟩) k t d ((t : Int) / 2) (zs.drop 2) W hk2 (by omega) (HTL.out W hW) (hx.drop 2) (by omega)).mono fun e w' h => (show ∃ G g, e = .returned (.tuple #[.slice G k g, .bool true]) ∧ w'.ownsRow W.heap.size 25 1 (.slice G k g) k ((wordsAt (zs.drop 2) 0 k).map (Value.int .u16)) ∧ Below W.heap.size W w' from ⟨_, _, h.1, own_of_whole h.2.1 (Nat.le_refl _) (by rw [List.length_map, wordsAt_length]) (by omega), h.2.2⟩))
  have hc1t := fun X hX => (HCE.out X hX 1 (by omega)).trans (by rw [hu])
  have HC1 := Lib.hid hc1t
  have ht255 : t ≤ 255 := by have := (hx.at_ 1).2; change zs.getD 1 0 ≤ 255 at this; omega
  have wti : IntKind.i64.wrap (t : Int) = (t : Int) := IntWalk.i64_in _ (by omega)
  clear hc1t hnt hu hk2
  have HP := Lib.hid hp
  have HQ := Lib.hid hq
  have H0 := Lib.hid h0
  clear hr hx hcell hkw hkw1 hp hq h0
  go_enter Try.func26, Try.ntmps26
  go_upto_region 8 with (first
    | (go_at_call 51
       (with_reducible refine (HSZ.out _ ?_).mono ?_)
       · exact (Below.refl _ _).alloc (Nat.le_refl _) _
       rintro e w' ⟨rfl, rfl⟩)
    | (go_at_call 52
       (with_reducible refine (CN1.out _ ?_).mono ?_)
       · first | exact HKW.out | exact below_drewN HKW.out _
       rintro e w' ⟨rfl, d1, rfl⟩)
    | (go_at_call 52
       (with_reducible refine (CN3.out _ ?_).mono ?_)
       · first | exact HKW.out | exact below_drewN HKW.out _
       rintro e w' ⟨rfl, d3, rfl⟩))
  obtain ⟨w3, hw3, G4, G2, GB⟩ := named HG4 HG2 HKW (d1 + d3)
  have hz3 : w.heap.size + 1 < w3.heap.size := G4.out.lt
  obtain ⟨hs0, hs1, hs2, hs3, hs4, hs5, hs6, hs7, hs8, hs9, hs10, hs11, hs12, hs13⟩ := cells14 G4.out
  obtain ⟨hp0, hp1, hp2, hp3, hp4, hp5, hp6, hp7, hp8, hp9, hp10, hp11, hp12, hp13⟩ := cells14 G2.out
  obtain ⟨hf0, hf1, hf2, hf3, hf4, hf5, hf6, hf7, hf8, hf9, hf10, hf11, hf12, hf13⟩ := frozen14 G4.out
  obtain ⟨hg0, hg1, hg2, hg3, hg4, hg5, hg6, hg7, hg8, hg9, hg10, hg11, hg12, hg13⟩ := frozen14 G2.out
  rw [hw3]
  clear hw3 hc0 hc0b HSZ CN1 CN3
  have hcw : w3.cell? ⟨b, off + 1, none⟩ = some (.int .u8 (t : Int)) := HC1.out w3 GB.out
  go_upto_region 21 with fail
  go_region_law (first
    | (go_simp; go_at_call 54
       (with_reducible refine (CU.out _ _ ?_).mono ?_)
       · first | exact GB.out | exact GB.out.drew | exact below_drewN GB.out _
       rintro e w5 ⟨G, g, rfl, ho5, hb5⟩
       have hb5' : Below w3.heap.size w3 w5 := by first | exact hb5 | exact (Below.refl _ _).drew.trans hb5
       have h1 := G4.out.below hb5' G4.out.lt
       have h0' := G2.out.below hb5' G2.out.lt
       have HB5 : Hid (Below w.heap.size w w5) := GB.out.trans (hb5'.mono GB.out.size)
       have hz5 : w.heap.size + 1 < w5.heap.size := h1.lt
       obtain ⟨ks0, ks1, ks2, ks3, ks4, ks5, ks6, ks7, ks8, ks9, ks10, ks11, ks12, ks13⟩ := cells14 h1
       obtain ⟨kp0, kp1, kp2, kp3, kp4, kp5, kp6, kp7, kp8, kp9, kp10, kp11, kp12, kp13⟩ := cells14 h0'
       obtain ⟨kf0, kf1, kf2, kf3, kf4, kf5, kf6, kf7, kf8, kf9, kf10, kf11, kf12, kf13⟩ := frozen14 h1
       obtain ⟨kg0, kg1, kg2, kg3, kg4, kg5, kg6, kg7, kg8, kg9, kg10, kg11, kg12, kg13⟩ := frozen14 h0'
       have HH1 := Lib.hid h1
       have HH0 := Lib.hid h0'
       have HO5 : Hid (w5.ownsRow (w.heap.size + 2) 25 1 (.slice G k g) k ((wordsAt (zs.drop 2) 0 k).map (Value.int .u16))) := own_mono ho5 (show w.heap.size + 2 ≤ w3.heap.size by omega)
       clear h1 h0' hb5 hb5' ho5))
  all_goals
    go_wp2_with fail
    obtain ⟨X, hX⟩ : ∃ X, (w5.setCell ⟨w.heap.size + 1, 3, none⟩ (.slice G k g)) = X := ⟨_, rfl⟩
    have hx0 := (whole_far HH0.out (show w.heap.size ≠ w.heap.size + 1 by omega) 3 (.slice G k g))
    have hxb := (HB5.out.setCell (p := ⟨w.heap.size + 1, 3, none⟩) (Nat.le_succ _) (.slice G k g))
    have hox := (own_far HO5.out ⟨w.heap.size + 1, 3, none⟩ (show w.heap.size + 1 < w.heap.size + 2 by omega) (.slice G k g))
    rw [hX] at hx0 hxb hox
    rw [hX]
    exact end14 Try.results26 hx0 rfl hxb (Nat.le_refl _) rfl rfl fun w9 hbb hk => ⟨_, _, rfl, own_mono (own_blk hox hk (show w.heap.size < w.heap.size + 2 by omega)) (by omega), hbb⟩

set_option maxRecDepth 100000 in
set_option maxHeartbeats 600000 in
theorem pdev_few (A : Option Addr) (n c : Nat) (w : World) (hn : n < 7) :
    Calls Try.prog 56 #[.slice A n c] w fun e w' => e = .returned (.tuple #[.agg #[.int .i64 0, .int .i64 0, .slice none 0 0, .slice none 0 0, .int .i64 0, .int .i64 0, .int .u16 0, .int .u16 0, .int .u16 0, .int .i64 0, .int .i64 0, .bool false, .int .i64 0, .slice none 0 0], .bool false]) ∧ Below w.heap.size w w' := by
  have hl' : (n : Int) < 7 := by omega
  go_enter Try.func56, Try.ntmps56
  go_wp2
  exact bodyPost_ret (v := .tuple #[.agg #[.int .i64 0, .int .i64 0, .slice none 0 0, .slice none 0 0, .int .i64 0, .int .i64 0, .int .u16 0, .int .u16 0, .int .u16 0, .int .i64 0, .int .i64 0, .bool false, .int .i64 0, .slice none 0 0], .bool false]) (by simp [results, Try.results56, go_sem]) rfl ⟨rfl, (Below.refl _ _).alloc (Nat.le_refl _) _⟩

set_option maxRecDepth 100000 in
set_option maxHeartbeats 2000000 in
theorem pdev_no (A : Option Addr) (n c : Nat) (zs : List Int) (z1 z2 z3 z4 z5 z6 : Int) (w : World) (hr : Row .u8 w w.heap.size A n zs) (hx : Bytes8 zs) (hn : 7 ≤ n) (h1 : zs.getD 1 0 = z1) (h2 : zs.getD 2 0 = z2) (h3 : zs.getD 3 0 = z3) (h4 : zs.getD 4 0 = z4) (h5 : zs.getD 5 0 = z5) (h6 : zs.getD 6 0 = z6) (hno : z1 ≠ 14 ∨ (z4 ≠ 0 ∧ z4 ≠ 255)) :
    Calls Try.prog 56 #[.slice A n c] w fun e w' => e = .returned (.tuple #[.agg #[.int .i64 0, .int .i64 0, .slice none 0 0, .slice none 0 0, .int .i64 0, .int .i64 0, .int .u16 0, .int .u16 0, .int .u16 0, .int .i64 0, .int .i64 0, .bool false, .int .i64 0, .slice none 0 0], .bool false]) ∧ Below w.heap.size w w' := by
  obtain ⟨b, off, rfl, hb, hcell⟩ := hr.2 (by omega)
  have hl' : ¬ (n : Int) < 7 := by omega
  have hlt : ∀ k : Nat, k < 7 → (k : Int) < (n : Int) := by omega
  have n6 : (6 : Int) < (n : Int) := by omega
  have n6' : 6 < n := by omega
  have n5' : 5 < n := by omega
  have n4' : 4 < n := by omega
  have n3' : 3 < n := by omega
  have n2' : 2 < n := by omega
  have n1' : 1 < n := by omega
  have hc1' := hcell 1 (by omega)
  rw [h1] at hc1'
  have hc1 : (w.alloc (.cells #[.int .i64 0, .int .i64 0, .slice none 0 0, .slice none 0 0, .int .i64 0, .int .i64 0, .int .u16 0, .int .u16 0, .int .u16 0, .int .i64 0, .int .i64 0, .bool false, .int .i64 0, .slice none 0 0] 28)).cell? ⟨b, off + 1, none⟩ = some (.int .u8 z1) := by
    rw [World.cell?_alloc_lt w _ ⟨b, off + 1, none⟩ hb]
    exact hc1'
  have hb1 := hx.at_ 1
  change 0 ≤ zs.getD 1 0 ∧ zs.getD 1 0 ≤ 255 at hb1
  rw [h1] at hb1
  have l1 := hb1.1
  have u1 := hb1.2
  have hc2' := hcell 2 (by omega)
  rw [h2] at hc2'
  have hc2 : (w.alloc (.cells #[.int .i64 0, .int .i64 0, .slice none 0 0, .slice none 0 0, .int .i64 0, .int .i64 0, .int .u16 0, .int .u16 0, .int .u16 0, .int .i64 0, .int .i64 0, .bool false, .int .i64 0, .slice none 0 0] 28)).cell? ⟨b, off + 2, none⟩ = some (.int .u8 z2) := by
    rw [World.cell?_alloc_lt w _ ⟨b, off + 2, none⟩ hb]
    exact hc2'
  have hb2 := hx.at_ 2
  change 0 ≤ zs.getD 2 0 ∧ zs.getD 2 0 ≤ 255 at hb2
  rw [h2] at hb2
  have l2 := hb2.1
  have u2 := hb2.2
  have hc3' := hcell 3 (by omega)
  rw [h3] at hc3'
  have hc3 : (w.alloc (.cells #[.int .i64 0, .int .i64 0, .slice none 0 0, .slice none 0 0, .int .i64 0, .int .i64 0, .int .u16 0, .int .u16 0, .int .u16 0, .int .i64 0, .int .i64 0, .bool false, .int .i64 0, .slice none 0 0] 28)).cell? ⟨b, off + 3, none⟩ = some (.int .u8 z3) := by
    rw [World.cell?_alloc_lt w _ ⟨b, off + 3, none⟩ hb]
    exact hc3'
  have hb3 := hx.at_ 3
  change 0 ≤ zs.getD 3 0 ∧ zs.getD 3 0 ≤ 255 at hb3
  rw [h3] at hb3
  have l3 := hb3.1
  have u3 := hb3.2
  have hc4' := hcell 4 (by omega)
  rw [h4] at hc4'
  have hc4 : (w.alloc (.cells #[.int .i64 0, .int .i64 0, .slice none 0 0, .slice none 0 0, .int .i64 0, .int .i64 0, .int .u16 0, .int .u16 0, .int .u16 0, .int .i64 0, .int .i64 0, .bool false, .int .i64 0, .slice none 0 0] 28)).cell? ⟨b, off + 4, none⟩ = some (.int .u8 z4) := by
    rw [World.cell?_alloc_lt w _ ⟨b, off + 4, none⟩ hb]
    exact hc4'
  have hb4 := hx.at_ 4
  change 0 ≤ zs.getD 4 0 ∧ zs.getD 4 0 ≤ 255 at hb4
  rw [h4] at hb4
  have l4 := hb4.1
  have u4 := hb4.2
  have hc5' := hcell 5 (by omega)
  rw [h5] at hc5'
  have hc5 : (w.alloc (.cells #[.int .i64 0, .int .i64 0, .slice none 0 0, .slice none 0 0, .int .i64 0, .int .i64 0, .int .u16 0, .int .u16 0, .int .u16 0, .int .i64 0, .int .i64 0, .bool false, .int .i64 0, .slice none 0 0] 28)).cell? ⟨b, off + 5, none⟩ = some (.int .u8 z5) := by
    rw [World.cell?_alloc_lt w _ ⟨b, off + 5, none⟩ hb]
    exact hc5'
  have hb5 := hx.at_ 5
  change 0 ≤ zs.getD 5 0 ∧ zs.getD 5 0 ≤ 255 at hb5
  rw [h5] at hb5
  have l5 := hb5.1
  have u5 := hb5.2
  have hc6' := hcell 6 (by omega)
  rw [h6] at hc6'
  have hc6 : (w.alloc (.cells #[.int .i64 0, .int .i64 0, .slice none 0 0, .slice none 0 0, .int .i64 0, .int .i64 0, .int .u16 0, .int .u16 0, .int .u16 0, .int .i64 0, .int .i64 0, .bool false, .int .i64 0, .slice none 0 0] 28)).cell? ⟨b, off + 6, none⟩ = some (.int .u8 z6) := by
    rw [World.cell?_alloc_lt w _ ⟨b, off + 6, none⟩ hb]
    exact hc6'
  have hb6 := hx.at_ 6
  change 0 ≤ zs.getD 6 0 ∧ zs.getD 6 0 ≤ 255 at hb6
  rw [h6] at hb6
  have l6 := hb6.1
  have u6 := hb6.2
  clear hr hx hcell hlt h1 h2 h3 h4 h5 h6 hb1 hb2 hb3 hb4 hb5 hb6
  rcases (show z1 ≠ 14 ∨ (z1 = 14 ∧ z4 ≠ 0 ∧ z4 ≠ 255) by omega) with hz | ⟨hz, hz0, hz255⟩
  · have q1 : (z1 != 14) = true := by simpa using hz
    clear hno
    go_enter Try.func56, Try.ntmps56
    go_wp2
    go_quiet (fail)
    go_wp2
    obtain ⟨X, hX⟩ : ∃ X, (w.alloc (.cells #[.int .i64 0, .int .i64 0, .slice none 0 0, .slice none 0 0, .int .i64 0, .int .i64 0, .int .u16 0, .int .u16 0, .int .u16 0, .int .i64 0, .int .i64 0, .bool false, .int .i64 0, .slice none 0 0] 28)).drewN nq = X := ⟨_, rfl⟩
    have hx0 : WholeV X w.heap.size 28 [.int .i64 0, .int .i64 0, .slice none 0 0, .slice none 0 0, .int .i64 0, .int .i64 0, .int .u16 0, .int .u16 0, .int .u16 0, .int .i64 0, .int .i64 0, .bool false, .int .i64 0, .slice none 0 0] := by rw [← hX]; exact heap_alloc_new w _
    have hxb : Below w.heap.size w X := by rw [← hX]; exact below_drewN ((Below.refl _ _).alloc (Nat.le_refl _) _) _
    rw [hX]
    clear hX
    obtain ⟨w9, hw9⟩ : ∃ w9, ((((((((((((((X.setCell ⟨w.heap.size, 0, none⟩ (.int .i64 0)).setCell ⟨w.heap.size, 1, none⟩ (.int .i64 0)).setCell ⟨w.heap.size, 2, none⟩ (.slice none 0 0)).setCell ⟨w.heap.size, 3, none⟩ (.slice none 0 0)).setCell ⟨w.heap.size, 4, none⟩ (.int .i64 0)).setCell ⟨w.heap.size, 5, none⟩ (.int .i64 0)).setCell ⟨w.heap.size, 6, none⟩ (.int .u16 0)).setCell ⟨w.heap.size, 7, none⟩ (.int .u16 0)).setCell ⟨w.heap.size, 8, none⟩ (.int .u16 0)).setCell ⟨w.heap.size, 9, none⟩ (.int .i64 0)).setCell ⟨w.heap.size, 10, none⟩ (.int .i64 0)).setCell ⟨w.heap.size, 11, none⟩ (.bool false)).setCell ⟨w.heap.size, 12, none⟩ (.int .i64 0)).setCell ⟨w.heap.size, 13, none⟩ (.slice none 0 0)) = w9 := ⟨_, rfl⟩
    have hwh := all14 hx0 (.int .i64 0) (.int .i64 0) (.slice none 0 0) (.slice none 0 0) (.int .i64 0) (.int .i64 0) (.int .u16 0) (.int .u16 0) (.int .u16 0) (.int .i64 0) (.int .i64 0) (.bool false) (.int .i64 0) (.slice none 0 0) rfl
    have hbb := bel14 hxb (.int .i64 0) (.int .i64 0) (.slice none 0 0) (.slice none 0 0) (.int .i64 0) (.int .i64 0) (.int .u16 0) (.int .u16 0) (.int .u16 0) (.int .i64 0) (.int .i64 0) (.bool false) (.int .i64 0) (.slice none 0 0)
    rw [hw9] at hwh hbb
    rw [hw9]
    obtain ⟨he0, he1, he2, he3, he4, he5, he6, he7, he8, he9, he10, he11, he12, he13⟩ := cells14 hwh
    exact bodyPost_ret (v := .tuple #[.agg #[.int .i64 0, .int .i64 0, .slice none 0 0, .slice none 0 0, .int .i64 0, .int .i64 0, .int .u16 0, .int .u16 0, .int .u16 0, .int .i64 0, .int .i64 0, .bool false, .int .i64 0, .slice none 0 0], .bool false]) (by simp [results, Try.results56, go_sem, he0, he1, he2, he3, he4, he5, he6, he7, he8, he9, he10, he11, he12, he13]) rfl ⟨rfl, hbb⟩
  · have q1 : (z1 != 14) = false := by simp [hz]
    have q2 : (z4 != 0) = true := by simpa using hz0
    have q3 : (z4 != 255) = true := by simpa using hz255
    clear hno hz
    go_enter Try.func56, Try.ntmps56
    go_wp2
    go_quiet (fail)
    go_wp2
    obtain ⟨X, hX⟩ : ∃ X, (w.alloc (.cells #[.int .i64 0, .int .i64 0, .slice none 0 0, .slice none 0 0, .int .i64 0, .int .i64 0, .int .u16 0, .int .u16 0, .int .u16 0, .int .i64 0, .int .i64 0, .bool false, .int .i64 0, .slice none 0 0] 28)).drewN nq = X := ⟨_, rfl⟩
    have hx0 : WholeV X w.heap.size 28 [.int .i64 0, .int .i64 0, .slice none 0 0, .slice none 0 0, .int .i64 0, .int .i64 0, .int .u16 0, .int .u16 0, .int .u16 0, .int .i64 0, .int .i64 0, .bool false, .int .i64 0, .slice none 0 0] := by rw [← hX]; exact heap_alloc_new w _
    have hxb : Below w.heap.size w X := by rw [← hX]; exact below_drewN ((Below.refl _ _).alloc (Nat.le_refl _) _) _
    rw [hX]
    clear hX
    obtain ⟨w9, hw9⟩ : ∃ w9, ((((((((((((((X.setCell ⟨w.heap.size, 0, none⟩ (.int .i64 0)).setCell ⟨w.heap.size, 1, none⟩ (.int .i64 0)).setCell ⟨w.heap.size, 2, none⟩ (.slice none 0 0)).setCell ⟨w.heap.size, 3, none⟩ (.slice none 0 0)).setCell ⟨w.heap.size, 4, none⟩ (.int .i64 0)).setCell ⟨w.heap.size, 5, none⟩ (.int .i64 0)).setCell ⟨w.heap.size, 6, none⟩ (.int .u16 0)).setCell ⟨w.heap.size, 7, none⟩ (.int .u16 0)).setCell ⟨w.heap.size, 8, none⟩ (.int .u16 0)).setCell ⟨w.heap.size, 9, none⟩ (.int .i64 0)).setCell ⟨w.heap.size, 10, none⟩ (.int .i64 0)).setCell ⟨w.heap.size, 11, none⟩ (.bool false)).setCell ⟨w.heap.size, 12, none⟩ (.int .i64 0)).setCell ⟨w.heap.size, 13, none⟩ (.slice none 0 0)) = w9 := ⟨_, rfl⟩
    have hwh := all14 hx0 (.int .i64 0) (.int .i64 0) (.slice none 0 0) (.slice none 0 0) (.int .i64 0) (.int .i64 0) (.int .u16 0) (.int .u16 0) (.int .u16 0) (.int .i64 0) (.int .i64 0) (.bool false) (.int .i64 0) (.slice none 0 0) rfl
    have hbb := bel14 hxb (.int .i64 0) (.int .i64 0) (.slice none 0 0) (.slice none 0 0) (.int .i64 0) (.int .i64 0) (.int .u16 0) (.int .u16 0) (.int .u16 0) (.int .i64 0) (.int .i64 0) (.bool false) (.int .i64 0) (.slice none 0 0)
    rw [hw9] at hwh hbb
    rw [hw9]
    obtain ⟨he0, he1, he2, he3, he4, he5, he6, he7, he8, he9, he10, he11, he12, he13⟩ := cells14 hwh
    exact bodyPost_ret (v := .tuple #[.agg #[.int .i64 0, .int .i64 0, .slice none 0 0, .slice none 0 0, .int .i64 0, .int .i64 0, .int .u16 0, .int .u16 0, .int .u16 0, .int .i64 0, .int .i64 0, .bool false, .int .i64 0, .slice none 0 0], .bool false]) (by simp [results, Try.results56, go_sem, he0, he1, he2, he3, he4, he5, he6, he7, he8, he9, he10, he11, he12, he13]) rfl ⟨rfl, hbb⟩

/-- What device leaves of a right head. -/
def DevGottrue (z2 z3 z5 : Int) (N : Nat) (zs : List Int) (w : World) (e : Ending) (w' : World) : Prop :=
  ∃ OA ol oc ok, e = .returned (.tuple #[.agg #[.int .i64 43, .int .i64 0, .slice none 0 0, .slice none 0 0, .int .i64 0, .int .i64 0, .int .u16 0, .int .u16 0, .int .u16 0, .int .i64 z2, .int .i64 z3, .bool true, .int .i64 z5, .slice OA ol oc], .bool ok]) ∧ Below w.heap.size w w' ∧ (∀ os, parseO N (zs.drop 7) = some os → ok = true ∧ ol = os.length ∧ w'.ownsRow (w.heap.size + 2) 57 2 (.slice OA ol oc) ol (obs os)) ∧ (parseO N (zs.drop 7) = none → ok = false)

set_option maxRecDepth 100000 in
set_option maxHeartbeats 4000000 in
theorem pdev_255 (b off n c : Nat) (zs : List Int) (z1 z2 z3 z4 z5 z6 : Int) (N : Nat) (w : World) (hr : Row .u8 w w.heap.size (some ⟨b, off, none⟩) n zs) (hx : Bytes8 zs) (hn : 7 ≤ n) (hn2 : n ≤ 1000) (hc : n ≤ c) (hc7 : 7 < c) (h1 : zs.getD 1 0 = z1) (h2 : zs.getD 2 0 = z2) (h3 : zs.getD 3 0 = z3) (h4 : zs.getD 4 0 = z4) (h5 : zs.getD 5 0 = z5) (h6 : zs.getD 6 0 = z6) (hz1 : z1 = 14) (hz4 : z4 = 255) (hz6 : z6 = (N : Int)) :
    Calls Try.prog 56 #[.slice (some ⟨b, off, none⟩) n c] w (DevGottrue z2 z3 z5 N zs w) := by
  obtain ⟨b', off', he, hb, hcell⟩ := hr.2 (by omega)
  injection he with he
  injection he with e1 e2
  subst e1 e2
  have hl' : ¬ (n : Int) < 7 := by omega
  have n6 : (6 : Int) < (n : Int) := by omega
  have n6' : 6 < n := by omega
  have n5' : 5 < n := by omega
  have n4' : 4 < n := by omega
  have n3' : 3 < n := by omega
  have n2' : 2 < n := by omega
  have n1' : 1 < n := by omega
  have n7' : (7 : Int) ≤ (n : Int) := by omega
  have hc1' := hcell 1 (by omega)
  rw [h1] at hc1'
  have hc1 : (w.alloc (.cells #[.int .i64 0, .int .i64 0, .slice none 0 0, .slice none 0 0, .int .i64 0, .int .i64 0, .int .u16 0, .int .u16 0, .int .u16 0, .int .i64 0, .int .i64 0, .bool false, .int .i64 0, .slice none 0 0] 28)).cell? ⟨b, off + 1, none⟩ = some (.int .u8 z1) := by
    rw [World.cell?_alloc_lt w _ ⟨b, off + 1, none⟩ hb]
    exact hc1'
  have hb1 := hx.at_ 1
  change 0 ≤ zs.getD 1 0 ∧ zs.getD 1 0 ≤ 255 at hb1
  rw [h1] at hb1
  have l1 := hb1.1
  have u1 := hb1.2
  have hc2' := hcell 2 (by omega)
  rw [h2] at hc2'
  have hc2 : (w.alloc (.cells #[.int .i64 0, .int .i64 0, .slice none 0 0, .slice none 0 0, .int .i64 0, .int .i64 0, .int .u16 0, .int .u16 0, .int .u16 0, .int .i64 0, .int .i64 0, .bool false, .int .i64 0, .slice none 0 0] 28)).cell? ⟨b, off + 2, none⟩ = some (.int .u8 z2) := by
    rw [World.cell?_alloc_lt w _ ⟨b, off + 2, none⟩ hb]
    exact hc2'
  have hb2 := hx.at_ 2
  change 0 ≤ zs.getD 2 0 ∧ zs.getD 2 0 ≤ 255 at hb2
  rw [h2] at hb2
  have l2 := hb2.1
  have u2 := hb2.2
  have hc3' := hcell 3 (by omega)
  rw [h3] at hc3'
  have hc3 : (w.alloc (.cells #[.int .i64 0, .int .i64 0, .slice none 0 0, .slice none 0 0, .int .i64 0, .int .i64 0, .int .u16 0, .int .u16 0, .int .u16 0, .int .i64 0, .int .i64 0, .bool false, .int .i64 0, .slice none 0 0] 28)).cell? ⟨b, off + 3, none⟩ = some (.int .u8 z3) := by
    rw [World.cell?_alloc_lt w _ ⟨b, off + 3, none⟩ hb]
    exact hc3'
  have hb3 := hx.at_ 3
  change 0 ≤ zs.getD 3 0 ∧ zs.getD 3 0 ≤ 255 at hb3
  rw [h3] at hb3
  have l3 := hb3.1
  have u3 := hb3.2
  have hc4' := hcell 4 (by omega)
  rw [h4] at hc4'
  have hc4 : (w.alloc (.cells #[.int .i64 0, .int .i64 0, .slice none 0 0, .slice none 0 0, .int .i64 0, .int .i64 0, .int .u16 0, .int .u16 0, .int .u16 0, .int .i64 0, .int .i64 0, .bool false, .int .i64 0, .slice none 0 0] 28)).cell? ⟨b, off + 4, none⟩ = some (.int .u8 z4) := by
    rw [World.cell?_alloc_lt w _ ⟨b, off + 4, none⟩ hb]
    exact hc4'
  have hb4 := hx.at_ 4
  change 0 ≤ zs.getD 4 0 ∧ zs.getD 4 0 ≤ 255 at hb4
  rw [h4] at hb4
  have l4 := hb4.1
  have u4 := hb4.2
  have hc5' := hcell 5 (by omega)
  rw [h5] at hc5'
  have hc5 : (w.alloc (.cells #[.int .i64 0, .int .i64 0, .slice none 0 0, .slice none 0 0, .int .i64 0, .int .i64 0, .int .u16 0, .int .u16 0, .int .u16 0, .int .i64 0, .int .i64 0, .bool false, .int .i64 0, .slice none 0 0] 28)).cell? ⟨b, off + 5, none⟩ = some (.int .u8 z5) := by
    rw [World.cell?_alloc_lt w _ ⟨b, off + 5, none⟩ hb]
    exact hc5'
  have hb5 := hx.at_ 5
  change 0 ≤ zs.getD 5 0 ∧ zs.getD 5 0 ≤ 255 at hb5
  rw [h5] at hb5
  have l5 := hb5.1
  have u5 := hb5.2
  have hc6' := hcell 6 (by omega)
  rw [h6] at hc6'
  have hc6 : (w.alloc (.cells #[.int .i64 0, .int .i64 0, .slice none 0 0, .slice none 0 0, .int .i64 0, .int .i64 0, .int .u16 0, .int .u16 0, .int .u16 0, .int .i64 0, .int .i64 0, .bool false, .int .i64 0, .slice none 0 0] 28)).cell? ⟨b, off + 6, none⟩ = some (.int .u8 z6) := by
    rw [World.cell?_alloc_lt w _ ⟨b, off + 6, none⟩ hb]
    exact hc6'
  have hb6 := hx.at_ 6
  change 0 ≤ zs.getD 6 0 ∧ zs.getD 6 0 ≤ 255 at hb6
  rw [h6] at hb6
  have l6 := hb6.1
  have u6 := hb6.2
  have hN : N ≤ 255 := by omega
  have w2_ : IntKind.i64.wrap z2 = z2 := IntWalk.i64_in _ (by omega)
  have w3_ : IntKind.i64.wrap z3 = z3 := IntWalk.i64_in _ (by omega)
  have w5_ : IntKind.i64.wrap z5 = z5 := IntWalk.i64_in _ (by omega)
  have w6_ : IntKind.i64.wrap z6 = (N : Int) := (IntWalk.i64_in _ (by omega)).trans hz6
  have hc7n : ¬ c = 7 := by omega
  have CO := Lib.hid (fun W (hW : Below w.heap.size w W) => pobjs_any (some ⟨b, off + 7, none⟩) (n - 7) (c - 7) (zs.drop 7) N W (((rowI_drop hr 7 hn).below hW).more hW.size) (fun z hz => hx z (List.mem_of_mem_drop hz)) (by omega) (by omega) hN)
  subst hz1
  subst hz4
  have HZ6 := Lib.hid hz6
  clear hr hx hcell hz6 h1 h2 h3 h4 h5 h6 hb1 hb2 hb3 hb4 hb5 hb6
  go_enter Try.func56, Try.ntmps56
  go_wp2
  go_quiet (fail)
  go_wp2_with (
    (go_at_call 78
     (with_reducible refine (CO.out _ ?_).mono ?_)
     · exact (below_drewN ((Below.refl _ _).alloc (Nat.le_refl _) _) _).alloc (by simp) _
     rintro e w2 ⟨OA, ol, oc, ok, rfl, hb2, h1, h2⟩
     have hM0 := heap_alloc_new ((w.alloc (.cells #[.int .i64 0, .int .i64 0, .slice none 0 0, .slice none 0 0, .int .i64 0, .int .i64 0, .int .u16 0, .int .u16 0, .int .u16 0, .int .i64 0, .int .i64 0, .bool false, .int .i64 0, .slice none 0 0] 28)).drewN nq) (.cells #[.int .i64 43, .int .i64 0, .slice none 0 0, .slice none 0 0, .int .i64 0, .int .i64 0, .int .u16 0, .int .u16 0, .int .u16 0, .int .i64 z2, .int .i64 z3, .bool true, .int .i64 z5, .slice none 0 0] 28)
     rw [show ((w.alloc (.cells #[.int .i64 0, .int .i64 0, .slice none 0 0, .slice none 0 0, .int .i64 0, .int .i64 0, .int .u16 0, .int .u16 0, .int .u16 0, .int .i64 0, .int .i64 0, .bool false, .int .i64 0, .slice none 0 0] 28)).drewN nq).heap.size = w.heap.size + 1 by simp] at hM0
     have hM1 : WholeV (((w.alloc (.cells #[.int .i64 0, .int .i64 0, .slice none 0 0, .slice none 0 0, .int .i64 0, .int .i64 0, .int .u16 0, .int .u16 0, .int .u16 0, .int .i64 0, .int .i64 0, .bool false, .int .i64 0, .slice none 0 0] 28)).drewN nq).alloc (.cells #[.int .i64 43, .int .i64 0, .slice none 0 0, .slice none 0 0, .int .i64 0, .int .i64 0, .int .u16 0, .int .u16 0, .int .u16 0, .int .i64 z2, .int .i64 z3, .bool true, .int .i64 z5, .slice none 0 0] 28)) (w.heap.size + 1) 28 [.int .i64 43, .int .i64 0, .slice none 0 0, .slice none 0 0, .int .i64 0, .int .i64 0, .int .u16 0, .int .u16 0, .int .u16 0, .int .i64 z2, .int .i64 z3, .bool true, .int .i64 z5, .slice none 0 0] := hM0
     have hX0 : WholeV ((w.alloc (.cells #[.int .i64 0, .int .i64 0, .slice none 0 0, .slice none 0 0, .int .i64 0, .int .i64 0, .int .u16 0, .int .u16 0, .int .u16 0, .int .i64 0, .int .i64 0, .bool false, .int .i64 0, .slice none 0 0] 28)).drewN nq) w.heap.size 28 [.int .i64 0, .int .i64 0, .slice none 0 0, .slice none 0 0, .int .i64 0, .int .i64 0, .int .u16 0, .int .u16 0, .int .u16 0, .int .i64 0, .int .i64 0, .bool false, .int .i64 0, .slice none 0 0] := heap_alloc_new w _
     have hX1 : WholeV (((w.alloc (.cells #[.int .i64 0, .int .i64 0, .slice none 0 0, .slice none 0 0, .int .i64 0, .int .i64 0, .int .u16 0, .int .u16 0, .int .u16 0, .int .i64 0, .int .i64 0, .bool false, .int .i64 0, .slice none 0 0] 28)).drewN nq).alloc (.cells #[.int .i64 43, .int .i64 0, .slice none 0 0, .slice none 0 0, .int .i64 0, .int .i64 0, .int .u16 0, .int .u16 0, .int .u16 0, .int .i64 z2, .int .i64 z3, .bool true, .int .i64 z5, .slice none 0 0] 28)) w.heap.size 28 [.int .i64 0, .int .i64 0, .slice none 0 0, .slice none 0 0, .int .i64 0, .int .i64 0, .int .u16 0, .int .u16 0, .int .u16 0, .int .i64 0, .int .i64 0, .bool false, .int .i64 0, .slice none 0 0] := hX0.below ((Below.refl _ _).alloc (Nat.le_refl _) _) (by simp)
     have hM2 := hM1.below hb2 (by simp)
     have hX2 := hX1.below hb2 (by simp; omega)
     have hbB : Below w.heap.size w w2 := ((below_drewN ((Below.refl w.heap.size w).alloc (Nat.le_refl _) _) nq).alloc (by simp) _).trans (hb2.mono (by simp; omega))
     have hz2 : w.heap.size + 2 ≤ w2.heap.size := by have := hb2.size; simp at this; omega
     rw [show (((w.alloc (.cells #[.int .i64 0, .int .i64 0, .slice none 0 0, .slice none 0 0, .int .i64 0, .int .i64 0, .int .u16 0, .int .u16 0, .int .u16 0, .int .i64 0, .int .i64 0, .bool false, .int .i64 0, .slice none 0 0] 28)).drewN nq).alloc (.cells #[.int .i64 43, .int .i64 0, .slice none 0 0, .slice none 0 0, .int .i64 0, .int .i64 0, .int .u16 0, .int .u16 0, .int .u16 0, .int .i64 z2, .int .i64 z3, .bool true, .int .i64 z5, .slice none 0 0] 28)).heap.size = w.heap.size + 2 by simp] at h1
     obtain ⟨tc0, tc1, tc2, tc3, tc4, tc5, tc6, tc7, tc8, tc9, tc10, tc11, tc12, tc13⟩ := cells14 hM2
     obtain ⟨xc0, xc1, xc2, xc3, xc4, xc5, xc6, xc7, xc8, xc9, xc10, xc11, xc12, xc13⟩ := cells14 hX2
     have tf13 := hM2.frozen 13
     have xf0 := hX2.frozen 0
     have xf1 := hX2.frozen 1
     have xf2 := hX2.frozen 2
     have xf3 := hX2.frozen 3
     have xf4 := hX2.frozen 4
     have xf5 := hX2.frozen 5
     have xf6 := hX2.frozen 6
     have xf7 := hX2.frozen 7
     have xf8 := hX2.frozen 8
     have xf9 := hX2.frozen 9
     have xf10 := hX2.frozen 10
     have xf11 := hX2.frozen 11
     have xf12 := hX2.frozen 12
     have xf13 := hX2.frozen 13
     have HX2 := Lib.hid hX2
     have HBB := Lib.hid hbB
     have H1 := Lib.hid h1
     have H2 := Lib.hid h2
     clear hM0 hM1 hX0 hX1 hM2 hX2 hbB hb2 h1 h2))
  obtain ⟨X, hX⟩ : ∃ X, w2.setCell ⟨w.heap.size + 1, 13, none⟩ (.slice OA ol oc) = X := ⟨_, rfl⟩
  have hx0 : WholeV X w.heap.size 28 [.int .i64 0, .int .i64 0, .slice none 0 0, .slice none 0 0, .int .i64 0, .int .i64 0, .int .u16 0, .int .u16 0, .int .u16 0, .int .i64 0, .int .i64 0, .bool false, .int .i64 0, .slice none 0 0] := by rw [← hX]; exact HX2.out.below ((Below.refl (w.heap.size + 1) _).setCell (p := ⟨w.heap.size + 1, 13, none⟩) (Nat.le_refl _) (.slice OA ol oc)) (Nat.lt_succ_self _)
  have hxb : Below w.heap.size w X := by rw [← hX]; exact HBB.out.setCell (p := ⟨w.heap.size + 1, 13, none⟩) (Nat.le_succ _) (.slice OA ol oc)
  have hxo : ∀ os, w2.ownsRow (w.heap.size + 2) 57 2 (.slice OA ol oc) ol (obs os) → X.ownsRow (w.heap.size + 2) 57 2 (.slice OA ol oc) ol (obs os) := fun os h => by rw [← hX]; exact ownsRow_setCell_below h (a := ⟨w.heap.size + 1, 13, none⟩) (show w.heap.size + 1 < w.heap.size + 2 by omega) _
  rw [hX]
  clear hX
  exact end14 Try.results56 hx0 rfl hxb (Nat.le_refl _) rfl rfl fun w9 hbb hk => ⟨OA, ol, oc, ok, rfl, hbb, fun os h => ⟨(H1.out os h).1, (H1.out os h).2.1, (fun h => own_blk h hk (show w.heap.size < w.heap.size + 2 by omega)) (hxo os (H1.out os h).2.2)⟩, H2.out⟩

/-- What device leaves of a right head. -/
def DevGotfalse (z2 z3 z5 : Int) (N : Nat) (zs : List Int) (w : World) (e : Ending) (w' : World) : Prop :=
  ∃ OA ol oc ok, e = .returned (.tuple #[.agg #[.int .i64 43, .int .i64 0, .slice none 0 0, .slice none 0 0, .int .i64 0, .int .i64 0, .int .u16 0, .int .u16 0, .int .u16 0, .int .i64 z2, .int .i64 z3, .bool false, .int .i64 z5, .slice OA ol oc], .bool ok]) ∧ Below w.heap.size w w' ∧ (∀ os, parseO N (zs.drop 7) = some os → ok = true ∧ ol = os.length ∧ w'.ownsRow (w.heap.size + 2) 57 2 (.slice OA ol oc) ol (obs os)) ∧ (parseO N (zs.drop 7) = none → ok = false)

set_option maxRecDepth 100000 in
set_option maxHeartbeats 4000000 in
theorem pdev_0 (b off n c : Nat) (zs : List Int) (z1 z2 z3 z4 z5 z6 : Int) (N : Nat) (w : World) (hr : Row .u8 w w.heap.size (some ⟨b, off, none⟩) n zs) (hx : Bytes8 zs) (hn : 7 ≤ n) (hn2 : n ≤ 1000) (hc : n ≤ c) (hc7 : 7 < c) (h1 : zs.getD 1 0 = z1) (h2 : zs.getD 2 0 = z2) (h3 : zs.getD 3 0 = z3) (h4 : zs.getD 4 0 = z4) (h5 : zs.getD 5 0 = z5) (h6 : zs.getD 6 0 = z6) (hz1 : z1 = 14) (hz4 : z4 = 0) (hz6 : z6 = (N : Int)) :
    Calls Try.prog 56 #[.slice (some ⟨b, off, none⟩) n c] w (DevGotfalse z2 z3 z5 N zs w) := by
  obtain ⟨b', off', he, hb, hcell⟩ := hr.2 (by omega)
  injection he with he
  injection he with e1 e2
  subst e1 e2
  have hl' : ¬ (n : Int) < 7 := by omega
  have n6 : (6 : Int) < (n : Int) := by omega
  have n6' : 6 < n := by omega
  have n5' : 5 < n := by omega
  have n4' : 4 < n := by omega
  have n3' : 3 < n := by omega
  have n2' : 2 < n := by omega
  have n1' : 1 < n := by omega
  have n7' : (7 : Int) ≤ (n : Int) := by omega
  have hc1' := hcell 1 (by omega)
  rw [h1] at hc1'
  have hc1 : (w.alloc (.cells #[.int .i64 0, .int .i64 0, .slice none 0 0, .slice none 0 0, .int .i64 0, .int .i64 0, .int .u16 0, .int .u16 0, .int .u16 0, .int .i64 0, .int .i64 0, .bool false, .int .i64 0, .slice none 0 0] 28)).cell? ⟨b, off + 1, none⟩ = some (.int .u8 z1) := by
    rw [World.cell?_alloc_lt w _ ⟨b, off + 1, none⟩ hb]
    exact hc1'
  have hb1 := hx.at_ 1
  change 0 ≤ zs.getD 1 0 ∧ zs.getD 1 0 ≤ 255 at hb1
  rw [h1] at hb1
  have l1 := hb1.1
  have u1 := hb1.2
  have hc2' := hcell 2 (by omega)
  rw [h2] at hc2'
  have hc2 : (w.alloc (.cells #[.int .i64 0, .int .i64 0, .slice none 0 0, .slice none 0 0, .int .i64 0, .int .i64 0, .int .u16 0, .int .u16 0, .int .u16 0, .int .i64 0, .int .i64 0, .bool false, .int .i64 0, .slice none 0 0] 28)).cell? ⟨b, off + 2, none⟩ = some (.int .u8 z2) := by
    rw [World.cell?_alloc_lt w _ ⟨b, off + 2, none⟩ hb]
    exact hc2'
  have hb2 := hx.at_ 2
  change 0 ≤ zs.getD 2 0 ∧ zs.getD 2 0 ≤ 255 at hb2
  rw [h2] at hb2
  have l2 := hb2.1
  have u2 := hb2.2
  have hc3' := hcell 3 (by omega)
  rw [h3] at hc3'
  have hc3 : (w.alloc (.cells #[.int .i64 0, .int .i64 0, .slice none 0 0, .slice none 0 0, .int .i64 0, .int .i64 0, .int .u16 0, .int .u16 0, .int .u16 0, .int .i64 0, .int .i64 0, .bool false, .int .i64 0, .slice none 0 0] 28)).cell? ⟨b, off + 3, none⟩ = some (.int .u8 z3) := by
    rw [World.cell?_alloc_lt w _ ⟨b, off + 3, none⟩ hb]
    exact hc3'
  have hb3 := hx.at_ 3
  change 0 ≤ zs.getD 3 0 ∧ zs.getD 3 0 ≤ 255 at hb3
  rw [h3] at hb3
  have l3 := hb3.1
  have u3 := hb3.2
  have hc4' := hcell 4 (by omega)
  rw [h4] at hc4'
  have hc4 : (w.alloc (.cells #[.int .i64 0, .int .i64 0, .slice none 0 0, .slice none 0 0, .int .i64 0, .int .i64 0, .int .u16 0, .int .u16 0, .int .u16 0, .int .i64 0, .int .i64 0, .bool false, .int .i64 0, .slice none 0 0] 28)).cell? ⟨b, off + 4, none⟩ = some (.int .u8 z4) := by
    rw [World.cell?_alloc_lt w _ ⟨b, off + 4, none⟩ hb]
    exact hc4'
  have hb4 := hx.at_ 4
  change 0 ≤ zs.getD 4 0 ∧ zs.getD 4 0 ≤ 255 at hb4
  rw [h4] at hb4
  have l4 := hb4.1
  have u4 := hb4.2
  have hc5' := hcell 5 (by omega)
  rw [h5] at hc5'
  have hc5 : (w.alloc (.cells #[.int .i64 0, .int .i64 0, .slice none 0 0, .slice none 0 0, .int .i64 0, .int .i64 0, .int .u16 0, .int .u16 0, .int .u16 0, .int .i64 0, .int .i64 0, .bool false, .int .i64 0, .slice none 0 0] 28)).cell? ⟨b, off + 5, none⟩ = some (.int .u8 z5) := by
    rw [World.cell?_alloc_lt w _ ⟨b, off + 5, none⟩ hb]
    exact hc5'
  have hb5 := hx.at_ 5
  change 0 ≤ zs.getD 5 0 ∧ zs.getD 5 0 ≤ 255 at hb5
  rw [h5] at hb5
  have l5 := hb5.1
  have u5 := hb5.2
  have hc6' := hcell 6 (by omega)
  rw [h6] at hc6'
  have hc6 : (w.alloc (.cells #[.int .i64 0, .int .i64 0, .slice none 0 0, .slice none 0 0, .int .i64 0, .int .i64 0, .int .u16 0, .int .u16 0, .int .u16 0, .int .i64 0, .int .i64 0, .bool false, .int .i64 0, .slice none 0 0] 28)).cell? ⟨b, off + 6, none⟩ = some (.int .u8 z6) := by
    rw [World.cell?_alloc_lt w _ ⟨b, off + 6, none⟩ hb]
    exact hc6'
  have hb6 := hx.at_ 6
  change 0 ≤ zs.getD 6 0 ∧ zs.getD 6 0 ≤ 255 at hb6
  rw [h6] at hb6
  have l6 := hb6.1
  have u6 := hb6.2
  have hN : N ≤ 255 := by omega
  have w2_ : IntKind.i64.wrap z2 = z2 := IntWalk.i64_in _ (by omega)
  have w3_ : IntKind.i64.wrap z3 = z3 := IntWalk.i64_in _ (by omega)
  have w5_ : IntKind.i64.wrap z5 = z5 := IntWalk.i64_in _ (by omega)
  have w6_ : IntKind.i64.wrap z6 = (N : Int) := (IntWalk.i64_in _ (by omega)).trans hz6
  have hc7n : ¬ c = 7 := by omega
  have CO := Lib.hid (fun W (hW : Below w.heap.size w W) => pobjs_any (some ⟨b, off + 7, none⟩) (n - 7) (c - 7) (zs.drop 7) N W (((rowI_drop hr 7 hn).below hW).more hW.size) (fun z hz => hx z (List.mem_of_mem_drop hz)) (by omega) (by omega) hN)
  subst hz1
  subst hz4
  have HZ6 := Lib.hid hz6
  clear hr hx hcell hz6 h1 h2 h3 h4 h5 h6 hb1 hb2 hb3 hb4 hb5 hb6
  go_enter Try.func56, Try.ntmps56
  go_wp2
  go_quiet (fail)
  go_wp2_with (
    (go_at_call 78
     (with_reducible refine (CO.out _ ?_).mono ?_)
     · exact (below_drewN ((Below.refl _ _).alloc (Nat.le_refl _) _) _).alloc (by simp) _
     rintro e w2 ⟨OA, ol, oc, ok, rfl, hb2, h1, h2⟩
     have hM0 := heap_alloc_new ((w.alloc (.cells #[.int .i64 0, .int .i64 0, .slice none 0 0, .slice none 0 0, .int .i64 0, .int .i64 0, .int .u16 0, .int .u16 0, .int .u16 0, .int .i64 0, .int .i64 0, .bool false, .int .i64 0, .slice none 0 0] 28)).drewN nq) (.cells #[.int .i64 43, .int .i64 0, .slice none 0 0, .slice none 0 0, .int .i64 0, .int .i64 0, .int .u16 0, .int .u16 0, .int .u16 0, .int .i64 z2, .int .i64 z3, .bool false, .int .i64 z5, .slice none 0 0] 28)
     rw [show ((w.alloc (.cells #[.int .i64 0, .int .i64 0, .slice none 0 0, .slice none 0 0, .int .i64 0, .int .i64 0, .int .u16 0, .int .u16 0, .int .u16 0, .int .i64 0, .int .i64 0, .bool false, .int .i64 0, .slice none 0 0] 28)).drewN nq).heap.size = w.heap.size + 1 by simp] at hM0
     have hM1 : WholeV (((w.alloc (.cells #[.int .i64 0, .int .i64 0, .slice none 0 0, .slice none 0 0, .int .i64 0, .int .i64 0, .int .u16 0, .int .u16 0, .int .u16 0, .int .i64 0, .int .i64 0, .bool false, .int .i64 0, .slice none 0 0] 28)).drewN nq).alloc (.cells #[.int .i64 43, .int .i64 0, .slice none 0 0, .slice none 0 0, .int .i64 0, .int .i64 0, .int .u16 0, .int .u16 0, .int .u16 0, .int .i64 z2, .int .i64 z3, .bool false, .int .i64 z5, .slice none 0 0] 28)) (w.heap.size + 1) 28 [.int .i64 43, .int .i64 0, .slice none 0 0, .slice none 0 0, .int .i64 0, .int .i64 0, .int .u16 0, .int .u16 0, .int .u16 0, .int .i64 z2, .int .i64 z3, .bool false, .int .i64 z5, .slice none 0 0] := hM0
     have hX0 : WholeV ((w.alloc (.cells #[.int .i64 0, .int .i64 0, .slice none 0 0, .slice none 0 0, .int .i64 0, .int .i64 0, .int .u16 0, .int .u16 0, .int .u16 0, .int .i64 0, .int .i64 0, .bool false, .int .i64 0, .slice none 0 0] 28)).drewN nq) w.heap.size 28 [.int .i64 0, .int .i64 0, .slice none 0 0, .slice none 0 0, .int .i64 0, .int .i64 0, .int .u16 0, .int .u16 0, .int .u16 0, .int .i64 0, .int .i64 0, .bool false, .int .i64 0, .slice none 0 0] := heap_alloc_new w _
     have hX1 : WholeV (((w.alloc (.cells #[.int .i64 0, .int .i64 0, .slice none 0 0, .slice none 0 0, .int .i64 0, .int .i64 0, .int .u16 0, .int .u16 0, .int .u16 0, .int .i64 0, .int .i64 0, .bool false, .int .i64 0, .slice none 0 0] 28)).drewN nq).alloc (.cells #[.int .i64 43, .int .i64 0, .slice none 0 0, .slice none 0 0, .int .i64 0, .int .i64 0, .int .u16 0, .int .u16 0, .int .u16 0, .int .i64 z2, .int .i64 z3, .bool false, .int .i64 z5, .slice none 0 0] 28)) w.heap.size 28 [.int .i64 0, .int .i64 0, .slice none 0 0, .slice none 0 0, .int .i64 0, .int .i64 0, .int .u16 0, .int .u16 0, .int .u16 0, .int .i64 0, .int .i64 0, .bool false, .int .i64 0, .slice none 0 0] := hX0.below ((Below.refl _ _).alloc (Nat.le_refl _) _) (by simp)
     have hM2 := hM1.below hb2 (by simp)
     have hX2 := hX1.below hb2 (by simp; omega)
     have hbB : Below w.heap.size w w2 := ((below_drewN ((Below.refl w.heap.size w).alloc (Nat.le_refl _) _) nq).alloc (by simp) _).trans (hb2.mono (by simp; omega))
     have hz2 : w.heap.size + 2 ≤ w2.heap.size := by have := hb2.size; simp at this; omega
     rw [show (((w.alloc (.cells #[.int .i64 0, .int .i64 0, .slice none 0 0, .slice none 0 0, .int .i64 0, .int .i64 0, .int .u16 0, .int .u16 0, .int .u16 0, .int .i64 0, .int .i64 0, .bool false, .int .i64 0, .slice none 0 0] 28)).drewN nq).alloc (.cells #[.int .i64 43, .int .i64 0, .slice none 0 0, .slice none 0 0, .int .i64 0, .int .i64 0, .int .u16 0, .int .u16 0, .int .u16 0, .int .i64 z2, .int .i64 z3, .bool false, .int .i64 z5, .slice none 0 0] 28)).heap.size = w.heap.size + 2 by simp] at h1
     obtain ⟨tc0, tc1, tc2, tc3, tc4, tc5, tc6, tc7, tc8, tc9, tc10, tc11, tc12, tc13⟩ := cells14 hM2
     obtain ⟨xc0, xc1, xc2, xc3, xc4, xc5, xc6, xc7, xc8, xc9, xc10, xc11, xc12, xc13⟩ := cells14 hX2
     have tf13 := hM2.frozen 13
     have xf0 := hX2.frozen 0
     have xf1 := hX2.frozen 1
     have xf2 := hX2.frozen 2
     have xf3 := hX2.frozen 3
     have xf4 := hX2.frozen 4
     have xf5 := hX2.frozen 5
     have xf6 := hX2.frozen 6
     have xf7 := hX2.frozen 7
     have xf8 := hX2.frozen 8
     have xf9 := hX2.frozen 9
     have xf10 := hX2.frozen 10
     have xf11 := hX2.frozen 11
     have xf12 := hX2.frozen 12
     have xf13 := hX2.frozen 13
     have HX2 := Lib.hid hX2
     have HBB := Lib.hid hbB
     have H1 := Lib.hid h1
     have H2 := Lib.hid h2
     clear hM0 hM1 hX0 hX1 hM2 hX2 hbB hb2 h1 h2))
  obtain ⟨X, hX⟩ : ∃ X, w2.setCell ⟨w.heap.size + 1, 13, none⟩ (.slice OA ol oc) = X := ⟨_, rfl⟩
  have hx0 : WholeV X w.heap.size 28 [.int .i64 0, .int .i64 0, .slice none 0 0, .slice none 0 0, .int .i64 0, .int .i64 0, .int .u16 0, .int .u16 0, .int .u16 0, .int .i64 0, .int .i64 0, .bool false, .int .i64 0, .slice none 0 0] := by rw [← hX]; exact HX2.out.below ((Below.refl (w.heap.size + 1) _).setCell (p := ⟨w.heap.size + 1, 13, none⟩) (Nat.le_refl _) (.slice OA ol oc)) (Nat.lt_succ_self _)
  have hxb : Below w.heap.size w X := by rw [← hX]; exact HBB.out.setCell (p := ⟨w.heap.size + 1, 13, none⟩) (Nat.le_succ _) (.slice OA ol oc)
  have hxo : ∀ os, w2.ownsRow (w.heap.size + 2) 57 2 (.slice OA ol oc) ol (obs os) → X.ownsRow (w.heap.size + 2) 57 2 (.slice OA ol oc) ol (obs os) := fun os h => by rw [← hX]; exact ownsRow_setCell_below h (a := ⟨w.heap.size + 1, 13, none⟩) (show w.heap.size + 1 < w.heap.size + 2 by omega) _
  rw [hX]
  clear hX
  exact end14 Try.results56 hx0 rfl hxb (Nat.le_refl _) rfl rfl fun w9 hbb hk => ⟨OA, ol, oc, ok, rfl, hbb, fun os h => ⟨(H1.out os h).1, (H1.out os h).2.1, (fun h => own_blk h hk (show w.heap.size < w.heap.size + 2 by omega)) (hxo os (H1.out os h).2.2)⟩, H2.out⟩

set_option maxRecDepth 100000 in
set_option maxHeartbeats 4000000 in
theorem pfl_43_few (b off n c : Nat) (zs : List Int) (m p q : Int) (w : World) (hr : Row .u8 w w.heap.size (some ⟨b, off, none⟩) n zs) (hx : Bytes8 zs) (hn : n ≤ 1000) (h0 : zs.getD 0 0 = 43) (hc : n ≤ c) (hc2 : c ≠ 2) (hp : gotW zs n 1 = p) (hq : gotW zs n 3 = q) (hn2 : 2 ≤ n) (hn7 : n < 7) :
    Calls Try.prog 26 #[.slice (some ⟨b, off, none⟩) n c, .int .i64 m] w fun e w' => e = .returned (.tuple #[.agg #[.int .i64 0, .int .i64 0, .slice none 0 0, .slice none 0 0, .int .i64 0, .int .i64 0, .int .u16 0, .int .u16 0, .int .u16 0, .int .i64 0, .int .i64 0, .bool false, .int .i64 0, .slice none 0 0], .bool false]) ∧ Below w.heap.size w w' := by
  have h2n : 2 ≤ n := by omega
  obtain ⟨lop, hip⟩ := gotW_bounds hx n 1
  rw [hp] at lop hip
  obtain ⟨loq, hiq⟩ := gotW_bounds hx n 3
  rw [hq] at loq hiq
  obtain ⟨b', off', e1, hb, hcell⟩ := hr.2 (by omega)
  injection e1 with e1
  injection e1 with e1 e2
  subst e1 e2
  obtain ⟨hkw1, hkw, hg4, hg2⟩ := box2 w 28 [.int .i64 0, .int .i64 0, .slice none 0 0, .slice none 0 0, .int .i64 0, .int .i64 0, .int .u16 0, .int .u16 0, .int .u16 0, .int .i64 0, .int .i64 0, .bool false, .int .i64 0, .slice none 0 0] [.int .i64 43, .int .i64 0, .slice none 0 0, .slice none 0 0, .int .i64 0, .int .i64 0, .int .u16 0, .int .u16 0, .int .u16 0, .int .i64 0, .int .i64 0, .bool false, .int .i64 0, .slice none 0 0]
  have HCE := Lib.hid (fun X (hX : Below w.heap.size w X) j (hj : j < n) => (hX.cell (p := ⟨b, off + j, none⟩) hb).trans (hcell j hj))
  have hc0 := HCE.out _ hkw1 0 (by omega)
  rw [Nat.add_zero, h0] at hc0
  have hc0b := HCE.out _ hkw 0 (by omega)
  rw [Nat.add_zero, h0] at hc0b
  have HRG := Lib.hid (fun X (hX : Below w.heap.size w X) => (hr.below hX).more hX.size)
  have HTL := Lib.hid (fun X (hX : Below w.heap.size w X) => (((hr.below hX).more hX.size : Row .u8 X X.heap.size (some ⟨b, off, none⟩) n zs)).tail (l := 2) (q := n - 2) (by omega))
  have HX := Lib.hid hx
  have HKW := Lib.hid hkw
  have HG4 := Lib.hid hg4
  have HG2 := Lib.hid hg2
  clear hg4 hg2
  have HSZ := Lib.hid (fun W (hW : Below w.heap.size w W) => psz_43 (some ⟨b, off, none⟩) n c zs W (HRG.out W hW) hn (by omega) h0)
  have CN1 := Lib.hid (fun W (hW : Below w.heap.size w W) => pnumber_any (some ⟨b, off, none⟩) n c zs 1 p W hp (HRG.out W hW) hx (by omega))
  have CN3 := Lib.hid (fun W (hW : Below w.heap.size w W) => pnumber_any (some ⟨b, off, none⟩) n c zs 3 q W hq (HRG.out W hW) hx (by omega))
  have hn0 : (0 : Int) < (n : Int) := by omega
  have hn1 : (1 : Int) < (n : Int) := by omega
  have hl2 : ¬ (n : Int) < 2 := by omega
  have h2c : (2 : Int) ≤ (n : Int) := by omega
  have h2d : ¬ c = 2 := by omega
  have ea : bits .andNot .u8 43 128 = 43 := by rw [andNot128 _ (by omega) (by omega)]; omega
  have wp : IntKind.u16.wrap p = p := IntWalk.u16_in _ (by omega)
  have wq : IntKind.u16.wrap q = q := IntWalk.u16_in _ (by omega)
  have eb : bits .and .u8 43 128 = 0 := by rw [and128 _ (by omega) (by omega)]; omega
  have CU := Lib.hid (fun W (hW : Below w.heap.size w W) => pdev_few (some ⟨b, off, none⟩) n c W hn7)
  have HP := Lib.hid hp
  have HQ := Lib.hid hq
  have H0 := Lib.hid h0
  clear hr hx hcell hkw hkw1 hp hq h0
  go_enter Try.func26, Try.ntmps26
  go_upto_region 8 with (first
    | (go_at_call 51
       (with_reducible refine (HSZ.out _ ?_).mono ?_)
       · exact (Below.refl _ _).alloc (Nat.le_refl _) _
       rintro e w' ⟨rfl, rfl⟩)
    | (go_at_call 52
       (with_reducible refine (CN1.out _ ?_).mono ?_)
       · first | exact HKW.out | exact below_drewN HKW.out _
       rintro e w' ⟨rfl, d1, rfl⟩)
    | (go_at_call 52
       (with_reducible refine (CN3.out _ ?_).mono ?_)
       · first | exact HKW.out | exact below_drewN HKW.out _
       rintro e w' ⟨rfl, d3, rfl⟩))
  obtain ⟨w3, hw3, G4, G2, GB⟩ := named HG4 HG2 HKW (d1 + d3)
  have hz3 : w.heap.size + 1 < w3.heap.size := G4.out.lt
  obtain ⟨hs0, hs1, hs2, hs3, hs4, hs5, hs6, hs7, hs8, hs9, hs10, hs11, hs12, hs13⟩ := cells14 G4.out
  obtain ⟨hp0, hp1, hp2, hp3, hp4, hp5, hp6, hp7, hp8, hp9, hp10, hp11, hp12, hp13⟩ := cells14 G2.out
  obtain ⟨hf0, hf1, hf2, hf3, hf4, hf5, hf6, hf7, hf8, hf9, hf10, hf11, hf12, hf13⟩ := frozen14 G4.out
  obtain ⟨hg0, hg1, hg2, hg3, hg4, hg5, hg6, hg7, hg8, hg9, hg10, hg11, hg12, hg13⟩ := frozen14 G2.out
  rw [hw3]
  clear hw3 hc0 hc0b HSZ CN1 CN3
  go_wp2_with (first
    | (go_at_call 56
       (with_reducible refine (CU.out _ ?_).mono ?_)
       · first | exact GB.out | exact GB.out.drew | exact below_drewN GB.out _
       rintro e w5 ⟨rfl, hb5⟩
       have hb5' : Below w3.heap.size w3 w5 := by first | exact hb5 | exact (Below.refl _ _).drew.trans hb5
       have h1 := G4.out.below hb5' G4.out.lt
       have h0' := G2.out.below hb5' G2.out.lt
       have HB5 : Hid (Below w.heap.size w w5) := GB.out.trans (hb5'.mono GB.out.size)
       have hz5 : w.heap.size + 1 < w5.heap.size := h1.lt
       obtain ⟨ks0, ks1, ks2, ks3, ks4, ks5, ks6, ks7, ks8, ks9, ks10, ks11, ks12, ks13⟩ := cells14 h1
       obtain ⟨kp0, kp1, kp2, kp3, kp4, kp5, kp6, kp7, kp8, kp9, kp10, kp11, kp12, kp13⟩ := cells14 h0'
       obtain ⟨kf0, kf1, kf2, kf3, kf4, kf5, kf6, kf7, kf8, kf9, kf10, kf11, kf12, kf13⟩ := frozen14 h1
       obtain ⟨kg0, kg1, kg2, kg3, kg4, kg5, kg6, kg7, kg8, kg9, kg10, kg11, kg12, kg13⟩ := frozen14 h0'
       have HH1 := Lib.hid h1
       have HH0 := Lib.hid h0'
       clear h1 h0' hb5 hb5'))
  obtain ⟨X, hX⟩ : ∃ X, w5 = X := ⟨_, rfl⟩
  have hx0 := HH0.out
  have hxb := HB5.out
  rw [hX] at hx0 hxb
  rw [hX]
  exact end14 Try.results26 hx0 rfl hxb (Nat.le_refl _) rfl rfl fun w9 hbb hk => ⟨rfl, hbb⟩

set_option maxRecDepth 100000 in
set_option maxHeartbeats 4000000 in
theorem pfl_43_no (b off n c : Nat) (zs : List Int) (m p q : Int) (w : World) (hr : Row .u8 w w.heap.size (some ⟨b, off, none⟩) n zs) (hx : Bytes8 zs) (hn : n ≤ 1000) (h0 : zs.getD 0 0 = 43) (hc : n ≤ c) (hc2 : c ≠ 2) (hp : gotW zs n 1 = p) (hq : gotW zs n 3 = q) (hn7 : 7 ≤ n) (hno : zs.getD 1 0 ≠ 14 ∨ (zs.getD 4 0 ≠ 0 ∧ zs.getD 4 0 ≠ 255)) :
    Calls Try.prog 26 #[.slice (some ⟨b, off, none⟩) n c, .int .i64 m] w fun e w' => e = .returned (.tuple #[.agg #[.int .i64 0, .int .i64 0, .slice none 0 0, .slice none 0 0, .int .i64 0, .int .i64 0, .int .u16 0, .int .u16 0, .int .u16 0, .int .i64 0, .int .i64 0, .bool false, .int .i64 0, .slice none 0 0], .bool false]) ∧ Below w.heap.size w w' := by
  have h2n : 2 ≤ n := by omega
  obtain ⟨lop, hip⟩ := gotW_bounds hx n 1
  rw [hp] at lop hip
  obtain ⟨loq, hiq⟩ := gotW_bounds hx n 3
  rw [hq] at loq hiq
  obtain ⟨b', off', e1, hb, hcell⟩ := hr.2 (by omega)
  injection e1 with e1
  injection e1 with e1 e2
  subst e1 e2
  obtain ⟨hkw1, hkw, hg4, hg2⟩ := box2 w 28 [.int .i64 0, .int .i64 0, .slice none 0 0, .slice none 0 0, .int .i64 0, .int .i64 0, .int .u16 0, .int .u16 0, .int .u16 0, .int .i64 0, .int .i64 0, .bool false, .int .i64 0, .slice none 0 0] [.int .i64 43, .int .i64 0, .slice none 0 0, .slice none 0 0, .int .i64 0, .int .i64 0, .int .u16 0, .int .u16 0, .int .u16 0, .int .i64 0, .int .i64 0, .bool false, .int .i64 0, .slice none 0 0]
  have HCE := Lib.hid (fun X (hX : Below w.heap.size w X) j (hj : j < n) => (hX.cell (p := ⟨b, off + j, none⟩) hb).trans (hcell j hj))
  have hc0 := HCE.out _ hkw1 0 (by omega)
  rw [Nat.add_zero, h0] at hc0
  have hc0b := HCE.out _ hkw 0 (by omega)
  rw [Nat.add_zero, h0] at hc0b
  have HRG := Lib.hid (fun X (hX : Below w.heap.size w X) => (hr.below hX).more hX.size)
  have HTL := Lib.hid (fun X (hX : Below w.heap.size w X) => (((hr.below hX).more hX.size : Row .u8 X X.heap.size (some ⟨b, off, none⟩) n zs)).tail (l := 2) (q := n - 2) (by omega))
  have HX := Lib.hid hx
  have HKW := Lib.hid hkw
  have HG4 := Lib.hid hg4
  have HG2 := Lib.hid hg2
  clear hg4 hg2
  have HSZ := Lib.hid (fun W (hW : Below w.heap.size w W) => psz_43 (some ⟨b, off, none⟩) n c zs W (HRG.out W hW) hn (by omega) h0)
  have CN1 := Lib.hid (fun W (hW : Below w.heap.size w W) => pnumber_any (some ⟨b, off, none⟩) n c zs 1 p W hp (HRG.out W hW) hx (by omega))
  have CN3 := Lib.hid (fun W (hW : Below w.heap.size w W) => pnumber_any (some ⟨b, off, none⟩) n c zs 3 q W hq (HRG.out W hW) hx (by omega))
  have hn0 : (0 : Int) < (n : Int) := by omega
  have hn1 : (1 : Int) < (n : Int) := by omega
  have hl2 : ¬ (n : Int) < 2 := by omega
  have h2c : (2 : Int) ≤ (n : Int) := by omega
  have h2d : ¬ c = 2 := by omega
  have ea : bits .andNot .u8 43 128 = 43 := by rw [andNot128 _ (by omega) (by omega)]; omega
  have wp : IntKind.u16.wrap p = p := IntWalk.u16_in _ (by omega)
  have wq : IntKind.u16.wrap q = q := IntWalk.u16_in _ (by omega)
  have eb : bits .and .u8 43 128 = 0 := by rw [and128 _ (by omega) (by omega)]; omega
  have CU := Lib.hid (fun W (hW : Below w.heap.size w W) => pdev_no (some ⟨b, off, none⟩) n c zs _ _ _ _ _ _ W (HRG.out W hW) hx hn7 rfl rfl rfl rfl rfl rfl hno)
  have HP := Lib.hid hp
  have HQ := Lib.hid hq
  have H0 := Lib.hid h0
  clear hr hx hcell hkw hkw1 hp hq h0
  go_enter Try.func26, Try.ntmps26
  go_upto_region 8 with (first
    | (go_at_call 51
       (with_reducible refine (HSZ.out _ ?_).mono ?_)
       · exact (Below.refl _ _).alloc (Nat.le_refl _) _
       rintro e w' ⟨rfl, rfl⟩)
    | (go_at_call 52
       (with_reducible refine (CN1.out _ ?_).mono ?_)
       · first | exact HKW.out | exact below_drewN HKW.out _
       rintro e w' ⟨rfl, d1, rfl⟩)
    | (go_at_call 52
       (with_reducible refine (CN3.out _ ?_).mono ?_)
       · first | exact HKW.out | exact below_drewN HKW.out _
       rintro e w' ⟨rfl, d3, rfl⟩))
  obtain ⟨w3, hw3, G4, G2, GB⟩ := named HG4 HG2 HKW (d1 + d3)
  have hz3 : w.heap.size + 1 < w3.heap.size := G4.out.lt
  obtain ⟨hs0, hs1, hs2, hs3, hs4, hs5, hs6, hs7, hs8, hs9, hs10, hs11, hs12, hs13⟩ := cells14 G4.out
  obtain ⟨hp0, hp1, hp2, hp3, hp4, hp5, hp6, hp7, hp8, hp9, hp10, hp11, hp12, hp13⟩ := cells14 G2.out
  obtain ⟨hf0, hf1, hf2, hf3, hf4, hf5, hf6, hf7, hf8, hf9, hf10, hf11, hf12, hf13⟩ := frozen14 G4.out
  obtain ⟨hg0, hg1, hg2, hg3, hg4, hg5, hg6, hg7, hg8, hg9, hg10, hg11, hg12, hg13⟩ := frozen14 G2.out
  rw [hw3]
  clear hw3 hc0 hc0b HSZ CN1 CN3
  go_wp2_with (first
    | (go_at_call 56
       (with_reducible refine (CU.out _ ?_).mono ?_)
       · first | exact GB.out | exact GB.out.drew | exact below_drewN GB.out _
       rintro e w5 ⟨rfl, hb5⟩
       have hb5' : Below w3.heap.size w3 w5 := by first | exact hb5 | exact (Below.refl _ _).drew.trans hb5
       have h1 := G4.out.below hb5' G4.out.lt
       have h0' := G2.out.below hb5' G2.out.lt
       have HB5 : Hid (Below w.heap.size w w5) := GB.out.trans (hb5'.mono GB.out.size)
       have hz5 : w.heap.size + 1 < w5.heap.size := h1.lt
       obtain ⟨ks0, ks1, ks2, ks3, ks4, ks5, ks6, ks7, ks8, ks9, ks10, ks11, ks12, ks13⟩ := cells14 h1
       obtain ⟨kp0, kp1, kp2, kp3, kp4, kp5, kp6, kp7, kp8, kp9, kp10, kp11, kp12, kp13⟩ := cells14 h0'
       obtain ⟨kf0, kf1, kf2, kf3, kf4, kf5, kf6, kf7, kf8, kf9, kf10, kf11, kf12, kf13⟩ := frozen14 h1
       obtain ⟨kg0, kg1, kg2, kg3, kg4, kg5, kg6, kg7, kg8, kg9, kg10, kg11, kg12, kg13⟩ := frozen14 h0'
       have HH1 := Lib.hid h1
       have HH0 := Lib.hid h0'
       clear h1 h0' hb5 hb5'))
  obtain ⟨X, hX⟩ : ∃ X, w5 = X := ⟨_, rfl⟩
  have hx0 := HH0.out
  have hxb := HB5.out
  rw [hX] at hx0 hxb
  rw [hX]
  exact end14 Try.results26 hx0 rfl hxb (Nat.le_refl _) rfl rfl fun w9 hbb hk => ⟨rfl, hbb⟩

set_option maxRecDepth 100000 in
set_option maxHeartbeats 4000000 in
theorem pfl_43_0 (b off n c : Nat) (zs : List Int) (m p q : Int) (z2 z3 z5 : Int) (N : Nat) (w : World) (hr : Row .u8 w w.heap.size (some ⟨b, off, none⟩) n zs) (hx : Bytes8 zs) (hn : n ≤ 1000) (h0 : zs.getD 0 0 = 43) (hc : n ≤ c) (hc2 : c ≠ 2) (hp : gotW zs n 1 = p) (hq : gotW zs n 3 = q) (h7 : 7 ≤ n) (h7c : 7 < c) (hy1 : zs.getD 1 0 = 14) (hy2 : zs.getD 2 0 = z2) (hy3 : zs.getD 3 0 = z3) (hy4 : zs.getD 4 0 = 0) (hy5 : zs.getD 5 0 = z5) (hy6 : zs.getD 6 0 = (N : Int)) :
    Calls Try.prog 26 #[.slice (some ⟨b, off, none⟩) n c, .int .i64 m] w fun e w' => DevGotfalse z2 z3 z5 N zs w e w' := by
  have h2n : 2 ≤ n := by omega
  obtain ⟨lop, hip⟩ := gotW_bounds hx n 1
  rw [hp] at lop hip
  obtain ⟨loq, hiq⟩ := gotW_bounds hx n 3
  rw [hq] at loq hiq
  obtain ⟨b', off', e1, hb, hcell⟩ := hr.2 (by omega)
  injection e1 with e1
  injection e1 with e1 e2
  subst e1 e2
  obtain ⟨hkw1, hkw, hg4, hg2⟩ := box2 w 28 [.int .i64 0, .int .i64 0, .slice none 0 0, .slice none 0 0, .int .i64 0, .int .i64 0, .int .u16 0, .int .u16 0, .int .u16 0, .int .i64 0, .int .i64 0, .bool false, .int .i64 0, .slice none 0 0] [.int .i64 43, .int .i64 0, .slice none 0 0, .slice none 0 0, .int .i64 0, .int .i64 0, .int .u16 0, .int .u16 0, .int .u16 0, .int .i64 0, .int .i64 0, .bool false, .int .i64 0, .slice none 0 0]
  have HCE := Lib.hid (fun X (hX : Below w.heap.size w X) j (hj : j < n) => (hX.cell (p := ⟨b, off + j, none⟩) hb).trans (hcell j hj))
  have hc0 := HCE.out _ hkw1 0 (by omega)
  rw [Nat.add_zero, h0] at hc0
  have hc0b := HCE.out _ hkw 0 (by omega)
  rw [Nat.add_zero, h0] at hc0b
  have HRG := Lib.hid (fun X (hX : Below w.heap.size w X) => (hr.below hX).more hX.size)
  have HTL := Lib.hid (fun X (hX : Below w.heap.size w X) => (((hr.below hX).more hX.size : Row .u8 X X.heap.size (some ⟨b, off, none⟩) n zs)).tail (l := 2) (q := n - 2) (by omega))
  have HX := Lib.hid hx
  have HKW := Lib.hid hkw
  have HG4 := Lib.hid hg4
  have HG2 := Lib.hid hg2
  clear hg4 hg2
  have HSZ := Lib.hid (fun W (hW : Below w.heap.size w W) => psz_43 (some ⟨b, off, none⟩) n c zs W (HRG.out W hW) hn (by omega) h0)
  have CN1 := Lib.hid (fun W (hW : Below w.heap.size w W) => pnumber_any (some ⟨b, off, none⟩) n c zs 1 p W hp (HRG.out W hW) hx (by omega))
  have CN3 := Lib.hid (fun W (hW : Below w.heap.size w W) => pnumber_any (some ⟨b, off, none⟩) n c zs 3 q W hq (HRG.out W hW) hx (by omega))
  have hn0 : (0 : Int) < (n : Int) := by omega
  have hn1 : (1 : Int) < (n : Int) := by omega
  have hl2 : ¬ (n : Int) < 2 := by omega
  have h2c : (2 : Int) ≤ (n : Int) := by omega
  have h2d : ¬ c = 2 := by omega
  have ea : bits .andNot .u8 43 128 = 43 := by rw [andNot128 _ (by omega) (by omega)]; omega
  have wp : IntKind.u16.wrap p = p := IntWalk.u16_in _ (by omega)
  have wq : IntKind.u16.wrap q = q := IntWalk.u16_in _ (by omega)
  have eb : bits .and .u8 43 128 = 0 := by rw [and128 _ (by omega) (by omega)]; omega
  have CU := Lib.hid (fun W (hW : Below w.heap.size w W) => pdev_0 b off n c zs 14 z2 z3 0 z5 (N : Int) N W (HRG.out W hW) hx h7 hn (by omega) (by omega) hy1 hy2 hy3 hy4 hy5 hy6 rfl rfl rfl)
  have H7 := Lib.hid h7
  clear hy1 hy2 hy3 hy4 hy5 hy6 h7
  have HP := Lib.hid hp
  have HQ := Lib.hid hq
  have H0 := Lib.hid h0
  clear hr hx hcell hkw hkw1 hp hq h0
  go_enter Try.func26, Try.ntmps26
  go_upto_region 8 with (first
    | (go_at_call 51
       (with_reducible refine (HSZ.out _ ?_).mono ?_)
       · exact (Below.refl _ _).alloc (Nat.le_refl _) _
       rintro e w' ⟨rfl, rfl⟩)
    | (go_at_call 52
       (with_reducible refine (CN1.out _ ?_).mono ?_)
       · first | exact HKW.out | exact below_drewN HKW.out _
       rintro e w' ⟨rfl, d1, rfl⟩)
    | (go_at_call 52
       (with_reducible refine (CN3.out _ ?_).mono ?_)
       · first | exact HKW.out | exact below_drewN HKW.out _
       rintro e w' ⟨rfl, d3, rfl⟩))
  obtain ⟨w3, hw3, G4, G2, GB⟩ := named HG4 HG2 HKW (d1 + d3)
  have hz3 : w.heap.size + 1 < w3.heap.size := G4.out.lt
  obtain ⟨hs0, hs1, hs2, hs3, hs4, hs5, hs6, hs7, hs8, hs9, hs10, hs11, hs12, hs13⟩ := cells14 G4.out
  obtain ⟨hp0, hp1, hp2, hp3, hp4, hp5, hp6, hp7, hp8, hp9, hp10, hp11, hp12, hp13⟩ := cells14 G2.out
  obtain ⟨hf0, hf1, hf2, hf3, hf4, hf5, hf6, hf7, hf8, hf9, hf10, hf11, hf12, hf13⟩ := frozen14 G4.out
  obtain ⟨hg0, hg1, hg2, hg3, hg4, hg5, hg6, hg7, hg8, hg9, hg10, hg11, hg12, hg13⟩ := frozen14 G2.out
  rw [hw3]
  clear hw3 hc0 hc0b HSZ CN1 CN3
  go_wp2_with (first
    | (go_at_call 56
       (with_reducible refine (CU.out _ ?_).mono ?_)
       · first | exact GB.out | exact GB.out.drew | exact below_drewN GB.out _
       rintro e w5 ⟨OA, ol, oc, ok, rfl, hb5, hsome, hnone⟩
       have hb5' : Below w3.heap.size w3 w5 := by first | exact hb5 | exact (Below.refl _ _).drew.trans hb5
       have h1 := G4.out.below hb5' G4.out.lt
       have h0' := G2.out.below hb5' G2.out.lt
       have HB5 : Hid (Below w.heap.size w w5) := GB.out.trans (hb5'.mono GB.out.size)
       have hz5 : w.heap.size + 1 < w5.heap.size := h1.lt
       obtain ⟨ks0, ks1, ks2, ks3, ks4, ks5, ks6, ks7, ks8, ks9, ks10, ks11, ks12, ks13⟩ := cells14 h1
       obtain ⟨kp0, kp1, kp2, kp3, kp4, kp5, kp6, kp7, kp8, kp9, kp10, kp11, kp12, kp13⟩ := cells14 h0'
       obtain ⟨kf0, kf1, kf2, kf3, kf4, kf5, kf6, kf7, kf8, kf9, kf10, kf11, kf12, kf13⟩ := frozen14 h1
       obtain ⟨kg0, kg1, kg2, kg3, kg4, kg5, kg6, kg7, kg8, kg9, kg10, kg11, kg12, kg13⟩ := frozen14 h0'
       have HH1 := Lib.hid h1
       have HH0 := Lib.hid h0'
       have HSO := Lib.hid hsome
       have HNO := Lib.hid hnone
       have HZ3 := Lib.hid hz3
       clear h1 h0' hb5 hb5' hsome hnone))
  obtain ⟨X, hX⟩ : ∃ X, w5 = X := ⟨_, rfl⟩
  have hx0 := HH0.out
  have hxb := HB5.out
  rw [hX] at hx0 hxb
  rw [hX]
  exact end14 Try.results26 hx0 rfl hxb (Nat.le_refl _) rfl rfl fun w9 hbb hk => ⟨OA, ol, oc, ok, rfl, hbb, fun os h => ⟨(HSO.out os h).1, (HSO.out os h).2.1, (by have k := own2_mono (HSO.out os h).2.2 (show w.heap.size + 2 ≤ w3.heap.size + 2 by have := HZ3.out; omega); rw [hX] at k; exact own_blk k hk (show w.heap.size < w.heap.size + 2 by omega))⟩, HNO.out⟩

set_option maxRecDepth 100000 in
set_option maxHeartbeats 4000000 in
theorem pfl_43_5 (b off n c : Nat) (zs : List Int) (m p q : Int) (z2 z3 z5 : Int) (N : Nat) (w : World) (hr : Row .u8 w w.heap.size (some ⟨b, off, none⟩) n zs) (hx : Bytes8 zs) (hn : n ≤ 1000) (h0 : zs.getD 0 0 = 43) (hc : n ≤ c) (hc2 : c ≠ 2) (hp : gotW zs n 1 = p) (hq : gotW zs n 3 = q) (h7 : 7 ≤ n) (h7c : 7 < c) (hy1 : zs.getD 1 0 = 14) (hy2 : zs.getD 2 0 = z2) (hy3 : zs.getD 3 0 = z3) (hy4 : zs.getD 4 0 = 255) (hy5 : zs.getD 5 0 = z5) (hy6 : zs.getD 6 0 = (N : Int)) :
    Calls Try.prog 26 #[.slice (some ⟨b, off, none⟩) n c, .int .i64 m] w fun e w' => DevGottrue z2 z3 z5 N zs w e w' := by
  have h2n : 2 ≤ n := by omega
  obtain ⟨lop, hip⟩ := gotW_bounds hx n 1
  rw [hp] at lop hip
  obtain ⟨loq, hiq⟩ := gotW_bounds hx n 3
  rw [hq] at loq hiq
  obtain ⟨b', off', e1, hb, hcell⟩ := hr.2 (by omega)
  injection e1 with e1
  injection e1 with e1 e2
  subst e1 e2
  obtain ⟨hkw1, hkw, hg4, hg2⟩ := box2 w 28 [.int .i64 0, .int .i64 0, .slice none 0 0, .slice none 0 0, .int .i64 0, .int .i64 0, .int .u16 0, .int .u16 0, .int .u16 0, .int .i64 0, .int .i64 0, .bool false, .int .i64 0, .slice none 0 0] [.int .i64 43, .int .i64 0, .slice none 0 0, .slice none 0 0, .int .i64 0, .int .i64 0, .int .u16 0, .int .u16 0, .int .u16 0, .int .i64 0, .int .i64 0, .bool false, .int .i64 0, .slice none 0 0]
  have HCE := Lib.hid (fun X (hX : Below w.heap.size w X) j (hj : j < n) => (hX.cell (p := ⟨b, off + j, none⟩) hb).trans (hcell j hj))
  have hc0 := HCE.out _ hkw1 0 (by omega)
  rw [Nat.add_zero, h0] at hc0
  have hc0b := HCE.out _ hkw 0 (by omega)
  rw [Nat.add_zero, h0] at hc0b
  have HRG := Lib.hid (fun X (hX : Below w.heap.size w X) => (hr.below hX).more hX.size)
  have HTL := Lib.hid (fun X (hX : Below w.heap.size w X) => (((hr.below hX).more hX.size : Row .u8 X X.heap.size (some ⟨b, off, none⟩) n zs)).tail (l := 2) (q := n - 2) (by omega))
  have HX := Lib.hid hx
  have HKW := Lib.hid hkw
  have HG4 := Lib.hid hg4
  have HG2 := Lib.hid hg2
  clear hg4 hg2
  have HSZ := Lib.hid (fun W (hW : Below w.heap.size w W) => psz_43 (some ⟨b, off, none⟩) n c zs W (HRG.out W hW) hn (by omega) h0)
  have CN1 := Lib.hid (fun W (hW : Below w.heap.size w W) => pnumber_any (some ⟨b, off, none⟩) n c zs 1 p W hp (HRG.out W hW) hx (by omega))
  have CN3 := Lib.hid (fun W (hW : Below w.heap.size w W) => pnumber_any (some ⟨b, off, none⟩) n c zs 3 q W hq (HRG.out W hW) hx (by omega))
  have hn0 : (0 : Int) < (n : Int) := by omega
  have hn1 : (1 : Int) < (n : Int) := by omega
  have hl2 : ¬ (n : Int) < 2 := by omega
  have h2c : (2 : Int) ≤ (n : Int) := by omega
  have h2d : ¬ c = 2 := by omega
  have ea : bits .andNot .u8 43 128 = 43 := by rw [andNot128 _ (by omega) (by omega)]; omega
  have wp : IntKind.u16.wrap p = p := IntWalk.u16_in _ (by omega)
  have wq : IntKind.u16.wrap q = q := IntWalk.u16_in _ (by omega)
  have eb : bits .and .u8 43 128 = 0 := by rw [and128 _ (by omega) (by omega)]; omega
  have CU := Lib.hid (fun W (hW : Below w.heap.size w W) => pdev_255 b off n c zs 14 z2 z3 255 z5 (N : Int) N W (HRG.out W hW) hx h7 hn (by omega) (by omega) hy1 hy2 hy3 hy4 hy5 hy6 rfl rfl rfl)
  have H7 := Lib.hid h7
  clear hy1 hy2 hy3 hy4 hy5 hy6 h7
  have HP := Lib.hid hp
  have HQ := Lib.hid hq
  have H0 := Lib.hid h0
  clear hr hx hcell hkw hkw1 hp hq h0
  go_enter Try.func26, Try.ntmps26
  go_upto_region 8 with (first
    | (go_at_call 51
       (with_reducible refine (HSZ.out _ ?_).mono ?_)
       · exact (Below.refl _ _).alloc (Nat.le_refl _) _
       rintro e w' ⟨rfl, rfl⟩)
    | (go_at_call 52
       (with_reducible refine (CN1.out _ ?_).mono ?_)
       · first | exact HKW.out | exact below_drewN HKW.out _
       rintro e w' ⟨rfl, d1, rfl⟩)
    | (go_at_call 52
       (with_reducible refine (CN3.out _ ?_).mono ?_)
       · first | exact HKW.out | exact below_drewN HKW.out _
       rintro e w' ⟨rfl, d3, rfl⟩))
  obtain ⟨w3, hw3, G4, G2, GB⟩ := named HG4 HG2 HKW (d1 + d3)
  have hz3 : w.heap.size + 1 < w3.heap.size := G4.out.lt
  obtain ⟨hs0, hs1, hs2, hs3, hs4, hs5, hs6, hs7, hs8, hs9, hs10, hs11, hs12, hs13⟩ := cells14 G4.out
  obtain ⟨hp0, hp1, hp2, hp3, hp4, hp5, hp6, hp7, hp8, hp9, hp10, hp11, hp12, hp13⟩ := cells14 G2.out
  obtain ⟨hf0, hf1, hf2, hf3, hf4, hf5, hf6, hf7, hf8, hf9, hf10, hf11, hf12, hf13⟩ := frozen14 G4.out
  obtain ⟨hg0, hg1, hg2, hg3, hg4, hg5, hg6, hg7, hg8, hg9, hg10, hg11, hg12, hg13⟩ := frozen14 G2.out
  rw [hw3]
  clear hw3 hc0 hc0b HSZ CN1 CN3
  go_wp2_with (first
    | (go_at_call 56
       (with_reducible refine (CU.out _ ?_).mono ?_)
       · first | exact GB.out | exact GB.out.drew | exact below_drewN GB.out _
       rintro e w5 ⟨OA, ol, oc, ok, rfl, hb5, hsome, hnone⟩
       have hb5' : Below w3.heap.size w3 w5 := by first | exact hb5 | exact (Below.refl _ _).drew.trans hb5
       have h1 := G4.out.below hb5' G4.out.lt
       have h0' := G2.out.below hb5' G2.out.lt
       have HB5 : Hid (Below w.heap.size w w5) := GB.out.trans (hb5'.mono GB.out.size)
       have hz5 : w.heap.size + 1 < w5.heap.size := h1.lt
       obtain ⟨ks0, ks1, ks2, ks3, ks4, ks5, ks6, ks7, ks8, ks9, ks10, ks11, ks12, ks13⟩ := cells14 h1
       obtain ⟨kp0, kp1, kp2, kp3, kp4, kp5, kp6, kp7, kp8, kp9, kp10, kp11, kp12, kp13⟩ := cells14 h0'
       obtain ⟨kf0, kf1, kf2, kf3, kf4, kf5, kf6, kf7, kf8, kf9, kf10, kf11, kf12, kf13⟩ := frozen14 h1
       obtain ⟨kg0, kg1, kg2, kg3, kg4, kg5, kg6, kg7, kg8, kg9, kg10, kg11, kg12, kg13⟩ := frozen14 h0'
       have HH1 := Lib.hid h1
       have HH0 := Lib.hid h0'
       have HSO := Lib.hid hsome
       have HNO := Lib.hid hnone
       have HZ3 := Lib.hid hz3
       clear h1 h0' hb5 hb5' hsome hnone))
  obtain ⟨X, hX⟩ : ∃ X, w5 = X := ⟨_, rfl⟩
  have hx0 := HH0.out
  have hxb := HB5.out
  rw [hX] at hx0 hxb
  rw [hX]
  exact end14 Try.results26 hx0 rfl hxb (Nat.le_refl _) rfl rfl fun w9 hbb hk => ⟨OA, ol, oc, ok, rfl, hbb, fun os h => ⟨(HSO.out os h).1, (HSO.out os h).2.1, (by have k := own2_mono (HSO.out os h).2.2 (show w.heap.size + 2 ≤ w3.heap.size + 2 by have := HZ3.out; omega); rw [hX] at k; exact own_blk k hk (show w.heap.size < w.heap.size + 2 by omega))⟩, HNO.out⟩

set_option maxRecDepth 100000 in
set_option maxHeartbeats 4000000 in
theorem pdev7_255 (b off n c : Nat) (zs : List Int) (z1 z2 z3 z4 z5 z6 : Int) (N : Nat) (w : World) (hr : Row .u8 w w.heap.size (some ⟨b, off, none⟩) n zs) (hx : Bytes8 zs) (hn7 : n = 7) (hc7 : c = 7) (h1 : zs.getD 1 0 = z1) (h2 : zs.getD 2 0 = z2) (h3 : zs.getD 3 0 = z3) (h4 : zs.getD 4 0 = z4) (h5 : zs.getD 5 0 = z5) (h6 : zs.getD 6 0 = z6) (hz1 : z1 = 14) (hz4 : z4 = 255) (hz6 : z6 = (N : Int)) :
    Calls Try.prog 56 #[.slice (some ⟨b, off, none⟩) n c] w (DevGottrue z2 z3 z5 N zs w) := by
  subst hc7
  obtain ⟨b', off', he, hb, hcell⟩ := hr.2 (by omega)
  injection he with he
  injection he with e1 e2
  subst e1 e2
  have hl' : ¬ (n : Int) < 7 := by omega
  have n6 : (6 : Int) < (n : Int) := by omega
  have n6' : 6 < n := by omega
  have n5' : 5 < n := by omega
  have n4' : 4 < n := by omega
  have n3' : 3 < n := by omega
  have n2' : 2 < n := by omega
  have n1' : 1 < n := by omega
  have n7' : (7 : Int) ≤ (n : Int) := by omega
  have hc1' := hcell 1 (by omega)
  rw [h1] at hc1'
  have hc1 : (w.alloc (.cells #[.int .i64 0, .int .i64 0, .slice none 0 0, .slice none 0 0, .int .i64 0, .int .i64 0, .int .u16 0, .int .u16 0, .int .u16 0, .int .i64 0, .int .i64 0, .bool false, .int .i64 0, .slice none 0 0] 28)).cell? ⟨b, off + 1, none⟩ = some (.int .u8 z1) := by
    rw [World.cell?_alloc_lt w _ ⟨b, off + 1, none⟩ hb]
    exact hc1'
  have hb1 := hx.at_ 1
  change 0 ≤ zs.getD 1 0 ∧ zs.getD 1 0 ≤ 255 at hb1
  rw [h1] at hb1
  have l1 := hb1.1
  have u1 := hb1.2
  have hc2' := hcell 2 (by omega)
  rw [h2] at hc2'
  have hc2 : (w.alloc (.cells #[.int .i64 0, .int .i64 0, .slice none 0 0, .slice none 0 0, .int .i64 0, .int .i64 0, .int .u16 0, .int .u16 0, .int .u16 0, .int .i64 0, .int .i64 0, .bool false, .int .i64 0, .slice none 0 0] 28)).cell? ⟨b, off + 2, none⟩ = some (.int .u8 z2) := by
    rw [World.cell?_alloc_lt w _ ⟨b, off + 2, none⟩ hb]
    exact hc2'
  have hb2 := hx.at_ 2
  change 0 ≤ zs.getD 2 0 ∧ zs.getD 2 0 ≤ 255 at hb2
  rw [h2] at hb2
  have l2 := hb2.1
  have u2 := hb2.2
  have hc3' := hcell 3 (by omega)
  rw [h3] at hc3'
  have hc3 : (w.alloc (.cells #[.int .i64 0, .int .i64 0, .slice none 0 0, .slice none 0 0, .int .i64 0, .int .i64 0, .int .u16 0, .int .u16 0, .int .u16 0, .int .i64 0, .int .i64 0, .bool false, .int .i64 0, .slice none 0 0] 28)).cell? ⟨b, off + 3, none⟩ = some (.int .u8 z3) := by
    rw [World.cell?_alloc_lt w _ ⟨b, off + 3, none⟩ hb]
    exact hc3'
  have hb3 := hx.at_ 3
  change 0 ≤ zs.getD 3 0 ∧ zs.getD 3 0 ≤ 255 at hb3
  rw [h3] at hb3
  have l3 := hb3.1
  have u3 := hb3.2
  have hc4' := hcell 4 (by omega)
  rw [h4] at hc4'
  have hc4 : (w.alloc (.cells #[.int .i64 0, .int .i64 0, .slice none 0 0, .slice none 0 0, .int .i64 0, .int .i64 0, .int .u16 0, .int .u16 0, .int .u16 0, .int .i64 0, .int .i64 0, .bool false, .int .i64 0, .slice none 0 0] 28)).cell? ⟨b, off + 4, none⟩ = some (.int .u8 z4) := by
    rw [World.cell?_alloc_lt w _ ⟨b, off + 4, none⟩ hb]
    exact hc4'
  have hb4 := hx.at_ 4
  change 0 ≤ zs.getD 4 0 ∧ zs.getD 4 0 ≤ 255 at hb4
  rw [h4] at hb4
  have l4 := hb4.1
  have u4 := hb4.2
  have hc5' := hcell 5 (by omega)
  rw [h5] at hc5'
  have hc5 : (w.alloc (.cells #[.int .i64 0, .int .i64 0, .slice none 0 0, .slice none 0 0, .int .i64 0, .int .i64 0, .int .u16 0, .int .u16 0, .int .u16 0, .int .i64 0, .int .i64 0, .bool false, .int .i64 0, .slice none 0 0] 28)).cell? ⟨b, off + 5, none⟩ = some (.int .u8 z5) := by
    rw [World.cell?_alloc_lt w _ ⟨b, off + 5, none⟩ hb]
    exact hc5'
  have hb5 := hx.at_ 5
  change 0 ≤ zs.getD 5 0 ∧ zs.getD 5 0 ≤ 255 at hb5
  rw [h5] at hb5
  have l5 := hb5.1
  have u5 := hb5.2
  have hc6' := hcell 6 (by omega)
  rw [h6] at hc6'
  have hc6 : (w.alloc (.cells #[.int .i64 0, .int .i64 0, .slice none 0 0, .slice none 0 0, .int .i64 0, .int .i64 0, .int .u16 0, .int .u16 0, .int .u16 0, .int .i64 0, .int .i64 0, .bool false, .int .i64 0, .slice none 0 0] 28)).cell? ⟨b, off + 6, none⟩ = some (.int .u8 z6) := by
    rw [World.cell?_alloc_lt w _ ⟨b, off + 6, none⟩ hb]
    exact hc6'
  have hb6 := hx.at_ 6
  change 0 ≤ zs.getD 6 0 ∧ zs.getD 6 0 ≤ 255 at hb6
  rw [h6] at hb6
  have l6 := hb6.1
  have u6 := hb6.2
  have hN : N ≤ 255 := by omega
  have w2_ : IntKind.i64.wrap z2 = z2 := IntWalk.i64_in _ (by omega)
  have w3_ : IntKind.i64.wrap z3 = z3 := IntWalk.i64_in _ (by omega)
  have w5_ : IntKind.i64.wrap z5 = z5 := IntWalk.i64_in _ (by omega)
  have w6_ : IntKind.i64.wrap z6 = (N : Int) := (IntWalk.i64_in _ (by omega)).trans hz6
  have CO := Lib.hid (fun W (hW : Below w.heap.size w W) => pobjs_any (some ⟨b, off, none⟩) (n - 7) 0 (zs.drop 7) N W (by rw [List.drop_eq_nil_of_le (by have := hr.1; omega), show n - 7 = 0 by omega]; exact Row.nil _ _ _ _) (fun z hz => hx z (List.mem_of_mem_drop hz)) (by omega) (by omega) hN)
  subst hz1
  subst hz4
  have HZ6 := Lib.hid hz6
  clear hn7 hr hx hcell hz6 h1 h2 h3 h4 h5 h6 hb1 hb2 hb3 hb4 hb5 hb6
  go_enter Try.func56, Try.ntmps56
  go_wp2
  go_quiet (fail)
  go_wp2_with (
    (go_at_call 78
     (with_reducible refine (CO.out _ ?_).mono ?_)
     · exact (below_drewN ((Below.refl _ _).alloc (Nat.le_refl _) _) _).alloc (by simp) _
     rintro e w2 ⟨OA, ol, oc, ok, rfl, hb2, h1, h2⟩
     have hM0 := heap_alloc_new ((w.alloc (.cells #[.int .i64 0, .int .i64 0, .slice none 0 0, .slice none 0 0, .int .i64 0, .int .i64 0, .int .u16 0, .int .u16 0, .int .u16 0, .int .i64 0, .int .i64 0, .bool false, .int .i64 0, .slice none 0 0] 28)).drewN nq) (.cells #[.int .i64 43, .int .i64 0, .slice none 0 0, .slice none 0 0, .int .i64 0, .int .i64 0, .int .u16 0, .int .u16 0, .int .u16 0, .int .i64 z2, .int .i64 z3, .bool true, .int .i64 z5, .slice none 0 0] 28)
     rw [show ((w.alloc (.cells #[.int .i64 0, .int .i64 0, .slice none 0 0, .slice none 0 0, .int .i64 0, .int .i64 0, .int .u16 0, .int .u16 0, .int .u16 0, .int .i64 0, .int .i64 0, .bool false, .int .i64 0, .slice none 0 0] 28)).drewN nq).heap.size = w.heap.size + 1 by simp] at hM0
     have hM1 : WholeV (((w.alloc (.cells #[.int .i64 0, .int .i64 0, .slice none 0 0, .slice none 0 0, .int .i64 0, .int .i64 0, .int .u16 0, .int .u16 0, .int .u16 0, .int .i64 0, .int .i64 0, .bool false, .int .i64 0, .slice none 0 0] 28)).drewN nq).alloc (.cells #[.int .i64 43, .int .i64 0, .slice none 0 0, .slice none 0 0, .int .i64 0, .int .i64 0, .int .u16 0, .int .u16 0, .int .u16 0, .int .i64 z2, .int .i64 z3, .bool true, .int .i64 z5, .slice none 0 0] 28)) (w.heap.size + 1) 28 [.int .i64 43, .int .i64 0, .slice none 0 0, .slice none 0 0, .int .i64 0, .int .i64 0, .int .u16 0, .int .u16 0, .int .u16 0, .int .i64 z2, .int .i64 z3, .bool true, .int .i64 z5, .slice none 0 0] := hM0
     have hX0 : WholeV ((w.alloc (.cells #[.int .i64 0, .int .i64 0, .slice none 0 0, .slice none 0 0, .int .i64 0, .int .i64 0, .int .u16 0, .int .u16 0, .int .u16 0, .int .i64 0, .int .i64 0, .bool false, .int .i64 0, .slice none 0 0] 28)).drewN nq) w.heap.size 28 [.int .i64 0, .int .i64 0, .slice none 0 0, .slice none 0 0, .int .i64 0, .int .i64 0, .int .u16 0, .int .u16 0, .int .u16 0, .int .i64 0, .int .i64 0, .bool false, .int .i64 0, .slice none 0 0] := heap_alloc_new w _
     have hX1 : WholeV (((w.alloc (.cells #[.int .i64 0, .int .i64 0, .slice none 0 0, .slice none 0 0, .int .i64 0, .int .i64 0, .int .u16 0, .int .u16 0, .int .u16 0, .int .i64 0, .int .i64 0, .bool false, .int .i64 0, .slice none 0 0] 28)).drewN nq).alloc (.cells #[.int .i64 43, .int .i64 0, .slice none 0 0, .slice none 0 0, .int .i64 0, .int .i64 0, .int .u16 0, .int .u16 0, .int .u16 0, .int .i64 z2, .int .i64 z3, .bool true, .int .i64 z5, .slice none 0 0] 28)) w.heap.size 28 [.int .i64 0, .int .i64 0, .slice none 0 0, .slice none 0 0, .int .i64 0, .int .i64 0, .int .u16 0, .int .u16 0, .int .u16 0, .int .i64 0, .int .i64 0, .bool false, .int .i64 0, .slice none 0 0] := hX0.below ((Below.refl _ _).alloc (Nat.le_refl _) _) (by simp)
     have hM2 := hM1.below hb2 (by simp)
     have hX2 := hX1.below hb2 (by simp; omega)
     have hbB : Below w.heap.size w w2 := ((below_drewN ((Below.refl w.heap.size w).alloc (Nat.le_refl _) _) nq).alloc (by simp) _).trans (hb2.mono (by simp; omega))
     have hz2 : w.heap.size + 2 ≤ w2.heap.size := by have := hb2.size; simp at this; omega
     rw [show (((w.alloc (.cells #[.int .i64 0, .int .i64 0, .slice none 0 0, .slice none 0 0, .int .i64 0, .int .i64 0, .int .u16 0, .int .u16 0, .int .u16 0, .int .i64 0, .int .i64 0, .bool false, .int .i64 0, .slice none 0 0] 28)).drewN nq).alloc (.cells #[.int .i64 43, .int .i64 0, .slice none 0 0, .slice none 0 0, .int .i64 0, .int .i64 0, .int .u16 0, .int .u16 0, .int .u16 0, .int .i64 z2, .int .i64 z3, .bool true, .int .i64 z5, .slice none 0 0] 28)).heap.size = w.heap.size + 2 by simp] at h1
     obtain ⟨tc0, tc1, tc2, tc3, tc4, tc5, tc6, tc7, tc8, tc9, tc10, tc11, tc12, tc13⟩ := cells14 hM2
     obtain ⟨xc0, xc1, xc2, xc3, xc4, xc5, xc6, xc7, xc8, xc9, xc10, xc11, xc12, xc13⟩ := cells14 hX2
     have tf13 := hM2.frozen 13
     have xf0 := hX2.frozen 0
     have xf1 := hX2.frozen 1
     have xf2 := hX2.frozen 2
     have xf3 := hX2.frozen 3
     have xf4 := hX2.frozen 4
     have xf5 := hX2.frozen 5
     have xf6 := hX2.frozen 6
     have xf7 := hX2.frozen 7
     have xf8 := hX2.frozen 8
     have xf9 := hX2.frozen 9
     have xf10 := hX2.frozen 10
     have xf11 := hX2.frozen 11
     have xf12 := hX2.frozen 12
     have xf13 := hX2.frozen 13
     have HX2 := Lib.hid hX2
     have HBB := Lib.hid hbB
     have H1 := Lib.hid h1
     have H2 := Lib.hid h2
     clear hM0 hM1 hX0 hX1 hM2 hX2 hbB hb2 h1 h2))
  obtain ⟨X, hX⟩ : ∃ X, w2.setCell ⟨w.heap.size + 1, 13, none⟩ (.slice OA ol oc) = X := ⟨_, rfl⟩
  have hx0 : WholeV X w.heap.size 28 [.int .i64 0, .int .i64 0, .slice none 0 0, .slice none 0 0, .int .i64 0, .int .i64 0, .int .u16 0, .int .u16 0, .int .u16 0, .int .i64 0, .int .i64 0, .bool false, .int .i64 0, .slice none 0 0] := by rw [← hX]; exact HX2.out.below ((Below.refl (w.heap.size + 1) _).setCell (p := ⟨w.heap.size + 1, 13, none⟩) (Nat.le_refl _) (.slice OA ol oc)) (Nat.lt_succ_self _)
  have hxb : Below w.heap.size w X := by rw [← hX]; exact HBB.out.setCell (p := ⟨w.heap.size + 1, 13, none⟩) (Nat.le_succ _) (.slice OA ol oc)
  have hxo : ∀ os, w2.ownsRow (w.heap.size + 2) 57 2 (.slice OA ol oc) ol (obs os) → X.ownsRow (w.heap.size + 2) 57 2 (.slice OA ol oc) ol (obs os) := fun os h => by rw [← hX]; exact ownsRow_setCell_below h (a := ⟨w.heap.size + 1, 13, none⟩) (show w.heap.size + 1 < w.heap.size + 2 by omega) _
  rw [hX]
  clear hX
  exact end14 Try.results56 hx0 rfl hxb (Nat.le_refl _) rfl rfl fun w9 hbb hk => ⟨OA, ol, oc, ok, rfl, hbb, fun os h => ⟨(H1.out os h).1, (H1.out os h).2.1, (fun h => own_blk h hk (show w.heap.size < w.heap.size + 2 by omega)) (hxo os (H1.out os h).2.2)⟩, H2.out⟩

set_option maxRecDepth 100000 in
set_option maxHeartbeats 4000000 in
theorem pdev7_0 (b off n c : Nat) (zs : List Int) (z1 z2 z3 z4 z5 z6 : Int) (N : Nat) (w : World) (hr : Row .u8 w w.heap.size (some ⟨b, off, none⟩) n zs) (hx : Bytes8 zs) (hn7 : n = 7) (hc7 : c = 7) (h1 : zs.getD 1 0 = z1) (h2 : zs.getD 2 0 = z2) (h3 : zs.getD 3 0 = z3) (h4 : zs.getD 4 0 = z4) (h5 : zs.getD 5 0 = z5) (h6 : zs.getD 6 0 = z6) (hz1 : z1 = 14) (hz4 : z4 = 0) (hz6 : z6 = (N : Int)) :
    Calls Try.prog 56 #[.slice (some ⟨b, off, none⟩) n c] w (DevGotfalse z2 z3 z5 N zs w) := by
  subst hc7
  obtain ⟨b', off', he, hb, hcell⟩ := hr.2 (by omega)
  injection he with he
  injection he with e1 e2
  subst e1 e2
  have hl' : ¬ (n : Int) < 7 := by omega
  have n6 : (6 : Int) < (n : Int) := by omega
  have n6' : 6 < n := by omega
  have n5' : 5 < n := by omega
  have n4' : 4 < n := by omega
  have n3' : 3 < n := by omega
  have n2' : 2 < n := by omega
  have n1' : 1 < n := by omega
  have n7' : (7 : Int) ≤ (n : Int) := by omega
  have hc1' := hcell 1 (by omega)
  rw [h1] at hc1'
  have hc1 : (w.alloc (.cells #[.int .i64 0, .int .i64 0, .slice none 0 0, .slice none 0 0, .int .i64 0, .int .i64 0, .int .u16 0, .int .u16 0, .int .u16 0, .int .i64 0, .int .i64 0, .bool false, .int .i64 0, .slice none 0 0] 28)).cell? ⟨b, off + 1, none⟩ = some (.int .u8 z1) := by
    rw [World.cell?_alloc_lt w _ ⟨b, off + 1, none⟩ hb]
    exact hc1'
  have hb1 := hx.at_ 1
  change 0 ≤ zs.getD 1 0 ∧ zs.getD 1 0 ≤ 255 at hb1
  rw [h1] at hb1
  have l1 := hb1.1
  have u1 := hb1.2
  have hc2' := hcell 2 (by omega)
  rw [h2] at hc2'
  have hc2 : (w.alloc (.cells #[.int .i64 0, .int .i64 0, .slice none 0 0, .slice none 0 0, .int .i64 0, .int .i64 0, .int .u16 0, .int .u16 0, .int .u16 0, .int .i64 0, .int .i64 0, .bool false, .int .i64 0, .slice none 0 0] 28)).cell? ⟨b, off + 2, none⟩ = some (.int .u8 z2) := by
    rw [World.cell?_alloc_lt w _ ⟨b, off + 2, none⟩ hb]
    exact hc2'
  have hb2 := hx.at_ 2
  change 0 ≤ zs.getD 2 0 ∧ zs.getD 2 0 ≤ 255 at hb2
  rw [h2] at hb2
  have l2 := hb2.1
  have u2 := hb2.2
  have hc3' := hcell 3 (by omega)
  rw [h3] at hc3'
  have hc3 : (w.alloc (.cells #[.int .i64 0, .int .i64 0, .slice none 0 0, .slice none 0 0, .int .i64 0, .int .i64 0, .int .u16 0, .int .u16 0, .int .u16 0, .int .i64 0, .int .i64 0, .bool false, .int .i64 0, .slice none 0 0] 28)).cell? ⟨b, off + 3, none⟩ = some (.int .u8 z3) := by
    rw [World.cell?_alloc_lt w _ ⟨b, off + 3, none⟩ hb]
    exact hc3'
  have hb3 := hx.at_ 3
  change 0 ≤ zs.getD 3 0 ∧ zs.getD 3 0 ≤ 255 at hb3
  rw [h3] at hb3
  have l3 := hb3.1
  have u3 := hb3.2
  have hc4' := hcell 4 (by omega)
  rw [h4] at hc4'
  have hc4 : (w.alloc (.cells #[.int .i64 0, .int .i64 0, .slice none 0 0, .slice none 0 0, .int .i64 0, .int .i64 0, .int .u16 0, .int .u16 0, .int .u16 0, .int .i64 0, .int .i64 0, .bool false, .int .i64 0, .slice none 0 0] 28)).cell? ⟨b, off + 4, none⟩ = some (.int .u8 z4) := by
    rw [World.cell?_alloc_lt w _ ⟨b, off + 4, none⟩ hb]
    exact hc4'
  have hb4 := hx.at_ 4
  change 0 ≤ zs.getD 4 0 ∧ zs.getD 4 0 ≤ 255 at hb4
  rw [h4] at hb4
  have l4 := hb4.1
  have u4 := hb4.2
  have hc5' := hcell 5 (by omega)
  rw [h5] at hc5'
  have hc5 : (w.alloc (.cells #[.int .i64 0, .int .i64 0, .slice none 0 0, .slice none 0 0, .int .i64 0, .int .i64 0, .int .u16 0, .int .u16 0, .int .u16 0, .int .i64 0, .int .i64 0, .bool false, .int .i64 0, .slice none 0 0] 28)).cell? ⟨b, off + 5, none⟩ = some (.int .u8 z5) := by
    rw [World.cell?_alloc_lt w _ ⟨b, off + 5, none⟩ hb]
    exact hc5'
  have hb5 := hx.at_ 5
  change 0 ≤ zs.getD 5 0 ∧ zs.getD 5 0 ≤ 255 at hb5
  rw [h5] at hb5
  have l5 := hb5.1
  have u5 := hb5.2
  have hc6' := hcell 6 (by omega)
  rw [h6] at hc6'
  have hc6 : (w.alloc (.cells #[.int .i64 0, .int .i64 0, .slice none 0 0, .slice none 0 0, .int .i64 0, .int .i64 0, .int .u16 0, .int .u16 0, .int .u16 0, .int .i64 0, .int .i64 0, .bool false, .int .i64 0, .slice none 0 0] 28)).cell? ⟨b, off + 6, none⟩ = some (.int .u8 z6) := by
    rw [World.cell?_alloc_lt w _ ⟨b, off + 6, none⟩ hb]
    exact hc6'
  have hb6 := hx.at_ 6
  change 0 ≤ zs.getD 6 0 ∧ zs.getD 6 0 ≤ 255 at hb6
  rw [h6] at hb6
  have l6 := hb6.1
  have u6 := hb6.2
  have hN : N ≤ 255 := by omega
  have w2_ : IntKind.i64.wrap z2 = z2 := IntWalk.i64_in _ (by omega)
  have w3_ : IntKind.i64.wrap z3 = z3 := IntWalk.i64_in _ (by omega)
  have w5_ : IntKind.i64.wrap z5 = z5 := IntWalk.i64_in _ (by omega)
  have w6_ : IntKind.i64.wrap z6 = (N : Int) := (IntWalk.i64_in _ (by omega)).trans hz6
  have CO := Lib.hid (fun W (hW : Below w.heap.size w W) => pobjs_any (some ⟨b, off, none⟩) (n - 7) 0 (zs.drop 7) N W (by rw [List.drop_eq_nil_of_le (by have := hr.1; omega), show n - 7 = 0 by omega]; exact Row.nil _ _ _ _) (fun z hz => hx z (List.mem_of_mem_drop hz)) (by omega) (by omega) hN)
  subst hz1
  subst hz4
  have HZ6 := Lib.hid hz6
  clear hn7 hr hx hcell hz6 h1 h2 h3 h4 h5 h6 hb1 hb2 hb3 hb4 hb5 hb6
  go_enter Try.func56, Try.ntmps56
  go_wp2
  go_quiet (fail)
  go_wp2_with (
    (go_at_call 78
     (with_reducible refine (CO.out _ ?_).mono ?_)
     · exact (below_drewN ((Below.refl _ _).alloc (Nat.le_refl _) _) _).alloc (by simp) _
     rintro e w2 ⟨OA, ol, oc, ok, rfl, hb2, h1, h2⟩
     have hM0 := heap_alloc_new ((w.alloc (.cells #[.int .i64 0, .int .i64 0, .slice none 0 0, .slice none 0 0, .int .i64 0, .int .i64 0, .int .u16 0, .int .u16 0, .int .u16 0, .int .i64 0, .int .i64 0, .bool false, .int .i64 0, .slice none 0 0] 28)).drewN nq) (.cells #[.int .i64 43, .int .i64 0, .slice none 0 0, .slice none 0 0, .int .i64 0, .int .i64 0, .int .u16 0, .int .u16 0, .int .u16 0, .int .i64 z2, .int .i64 z3, .bool false, .int .i64 z5, .slice none 0 0] 28)
     rw [show ((w.alloc (.cells #[.int .i64 0, .int .i64 0, .slice none 0 0, .slice none 0 0, .int .i64 0, .int .i64 0, .int .u16 0, .int .u16 0, .int .u16 0, .int .i64 0, .int .i64 0, .bool false, .int .i64 0, .slice none 0 0] 28)).drewN nq).heap.size = w.heap.size + 1 by simp] at hM0
     have hM1 : WholeV (((w.alloc (.cells #[.int .i64 0, .int .i64 0, .slice none 0 0, .slice none 0 0, .int .i64 0, .int .i64 0, .int .u16 0, .int .u16 0, .int .u16 0, .int .i64 0, .int .i64 0, .bool false, .int .i64 0, .slice none 0 0] 28)).drewN nq).alloc (.cells #[.int .i64 43, .int .i64 0, .slice none 0 0, .slice none 0 0, .int .i64 0, .int .i64 0, .int .u16 0, .int .u16 0, .int .u16 0, .int .i64 z2, .int .i64 z3, .bool false, .int .i64 z5, .slice none 0 0] 28)) (w.heap.size + 1) 28 [.int .i64 43, .int .i64 0, .slice none 0 0, .slice none 0 0, .int .i64 0, .int .i64 0, .int .u16 0, .int .u16 0, .int .u16 0, .int .i64 z2, .int .i64 z3, .bool false, .int .i64 z5, .slice none 0 0] := hM0
     have hX0 : WholeV ((w.alloc (.cells #[.int .i64 0, .int .i64 0, .slice none 0 0, .slice none 0 0, .int .i64 0, .int .i64 0, .int .u16 0, .int .u16 0, .int .u16 0, .int .i64 0, .int .i64 0, .bool false, .int .i64 0, .slice none 0 0] 28)).drewN nq) w.heap.size 28 [.int .i64 0, .int .i64 0, .slice none 0 0, .slice none 0 0, .int .i64 0, .int .i64 0, .int .u16 0, .int .u16 0, .int .u16 0, .int .i64 0, .int .i64 0, .bool false, .int .i64 0, .slice none 0 0] := heap_alloc_new w _
     have hX1 : WholeV (((w.alloc (.cells #[.int .i64 0, .int .i64 0, .slice none 0 0, .slice none 0 0, .int .i64 0, .int .i64 0, .int .u16 0, .int .u16 0, .int .u16 0, .int .i64 0, .int .i64 0, .bool false, .int .i64 0, .slice none 0 0] 28)).drewN nq).alloc (.cells #[.int .i64 43, .int .i64 0, .slice none 0 0, .slice none 0 0, .int .i64 0, .int .i64 0, .int .u16 0, .int .u16 0, .int .u16 0, .int .i64 z2, .int .i64 z3, .bool false, .int .i64 z5, .slice none 0 0] 28)) w.heap.size 28 [.int .i64 0, .int .i64 0, .slice none 0 0, .slice none 0 0, .int .i64 0, .int .i64 0, .int .u16 0, .int .u16 0, .int .u16 0, .int .i64 0, .int .i64 0, .bool false, .int .i64 0, .slice none 0 0] := hX0.below ((Below.refl _ _).alloc (Nat.le_refl _) _) (by simp)
     have hM2 := hM1.below hb2 (by simp)
     have hX2 := hX1.below hb2 (by simp; omega)
     have hbB : Below w.heap.size w w2 := ((below_drewN ((Below.refl w.heap.size w).alloc (Nat.le_refl _) _) nq).alloc (by simp) _).trans (hb2.mono (by simp; omega))
     have hz2 : w.heap.size + 2 ≤ w2.heap.size := by have := hb2.size; simp at this; omega
     rw [show (((w.alloc (.cells #[.int .i64 0, .int .i64 0, .slice none 0 0, .slice none 0 0, .int .i64 0, .int .i64 0, .int .u16 0, .int .u16 0, .int .u16 0, .int .i64 0, .int .i64 0, .bool false, .int .i64 0, .slice none 0 0] 28)).drewN nq).alloc (.cells #[.int .i64 43, .int .i64 0, .slice none 0 0, .slice none 0 0, .int .i64 0, .int .i64 0, .int .u16 0, .int .u16 0, .int .u16 0, .int .i64 z2, .int .i64 z3, .bool false, .int .i64 z5, .slice none 0 0] 28)).heap.size = w.heap.size + 2 by simp] at h1
     obtain ⟨tc0, tc1, tc2, tc3, tc4, tc5, tc6, tc7, tc8, tc9, tc10, tc11, tc12, tc13⟩ := cells14 hM2
     obtain ⟨xc0, xc1, xc2, xc3, xc4, xc5, xc6, xc7, xc8, xc9, xc10, xc11, xc12, xc13⟩ := cells14 hX2
     have tf13 := hM2.frozen 13
     have xf0 := hX2.frozen 0
     have xf1 := hX2.frozen 1
     have xf2 := hX2.frozen 2
     have xf3 := hX2.frozen 3
     have xf4 := hX2.frozen 4
     have xf5 := hX2.frozen 5
     have xf6 := hX2.frozen 6
     have xf7 := hX2.frozen 7
     have xf8 := hX2.frozen 8
     have xf9 := hX2.frozen 9
     have xf10 := hX2.frozen 10
     have xf11 := hX2.frozen 11
     have xf12 := hX2.frozen 12
     have xf13 := hX2.frozen 13
     have HX2 := Lib.hid hX2
     have HBB := Lib.hid hbB
     have H1 := Lib.hid h1
     have H2 := Lib.hid h2
     clear hM0 hM1 hX0 hX1 hM2 hX2 hbB hb2 h1 h2))
  obtain ⟨X, hX⟩ : ∃ X, w2.setCell ⟨w.heap.size + 1, 13, none⟩ (.slice OA ol oc) = X := ⟨_, rfl⟩
  have hx0 : WholeV X w.heap.size 28 [.int .i64 0, .int .i64 0, .slice none 0 0, .slice none 0 0, .int .i64 0, .int .i64 0, .int .u16 0, .int .u16 0, .int .u16 0, .int .i64 0, .int .i64 0, .bool false, .int .i64 0, .slice none 0 0] := by rw [← hX]; exact HX2.out.below ((Below.refl (w.heap.size + 1) _).setCell (p := ⟨w.heap.size + 1, 13, none⟩) (Nat.le_refl _) (.slice OA ol oc)) (Nat.lt_succ_self _)
  have hxb : Below w.heap.size w X := by rw [← hX]; exact HBB.out.setCell (p := ⟨w.heap.size + 1, 13, none⟩) (Nat.le_succ _) (.slice OA ol oc)
  have hxo : ∀ os, w2.ownsRow (w.heap.size + 2) 57 2 (.slice OA ol oc) ol (obs os) → X.ownsRow (w.heap.size + 2) 57 2 (.slice OA ol oc) ol (obs os) := fun os h => by rw [← hX]; exact ownsRow_setCell_below h (a := ⟨w.heap.size + 1, 13, none⟩) (show w.heap.size + 1 < w.heap.size + 2 by omega) _
  rw [hX]
  clear hX
  exact end14 Try.results56 hx0 rfl hxb (Nat.le_refl _) rfl rfl fun w9 hbb hk => ⟨OA, ol, oc, ok, rfl, hbb, fun os h => ⟨(H1.out os h).1, (H1.out os h).2.1, (fun h => own_blk h hk (show w.heap.size < w.heap.size + 2 by omega)) (hxo os (H1.out os h).2.2)⟩, H2.out⟩

set_option maxRecDepth 100000 in
set_option maxHeartbeats 4000000 in
theorem pfl7_43_0 (b off n c : Nat) (zs : List Int) (m p q : Int) (z2 z3 z5 : Int) (N : Nat) (w : World) (hr : Row .u8 w w.heap.size (some ⟨b, off, none⟩) n zs) (hx : Bytes8 zs) (hn : n ≤ 1000) (h0 : zs.getD 0 0 = 43) (hc : n ≤ c) (hc2 : c ≠ 2) (hp : gotW zs n 1 = p) (hq : gotW zs n 3 = q) (h7 : n = 7) (h7c : c = 7) (hy1 : zs.getD 1 0 = 14) (hy2 : zs.getD 2 0 = z2) (hy3 : zs.getD 3 0 = z3) (hy4 : zs.getD 4 0 = 0) (hy5 : zs.getD 5 0 = z5) (hy6 : zs.getD 6 0 = (N : Int)) :
    Calls Try.prog 26 #[.slice (some ⟨b, off, none⟩) n c, .int .i64 m] w fun e w' => DevGotfalse z2 z3 z5 N zs w e w' := by
  have h2n : 2 ≤ n := by omega
  obtain ⟨lop, hip⟩ := gotW_bounds hx n 1
  rw [hp] at lop hip
  obtain ⟨loq, hiq⟩ := gotW_bounds hx n 3
  rw [hq] at loq hiq
  obtain ⟨b', off', e1, hb, hcell⟩ := hr.2 (by omega)
  injection e1 with e1
  injection e1 with e1 e2
  subst e1 e2
  obtain ⟨hkw1, hkw, hg4, hg2⟩ := box2 w 28 [.int .i64 0, .int .i64 0, .slice none 0 0, .slice none 0 0, .int .i64 0, .int .i64 0, .int .u16 0, .int .u16 0, .int .u16 0, .int .i64 0, .int .i64 0, .bool false, .int .i64 0, .slice none 0 0] [.int .i64 43, .int .i64 0, .slice none 0 0, .slice none 0 0, .int .i64 0, .int .i64 0, .int .u16 0, .int .u16 0, .int .u16 0, .int .i64 0, .int .i64 0, .bool false, .int .i64 0, .slice none 0 0]
  have HCE := Lib.hid (fun X (hX : Below w.heap.size w X) j (hj : j < n) => (hX.cell (p := ⟨b, off + j, none⟩) hb).trans (hcell j hj))
  have hc0 := HCE.out _ hkw1 0 (by omega)
  rw [Nat.add_zero, h0] at hc0
  have hc0b := HCE.out _ hkw 0 (by omega)
  rw [Nat.add_zero, h0] at hc0b
  have HRG := Lib.hid (fun X (hX : Below w.heap.size w X) => (hr.below hX).more hX.size)
  have HTL := Lib.hid (fun X (hX : Below w.heap.size w X) => (((hr.below hX).more hX.size : Row .u8 X X.heap.size (some ⟨b, off, none⟩) n zs)).tail (l := 2) (q := n - 2) (by omega))
  have HX := Lib.hid hx
  have HKW := Lib.hid hkw
  have HG4 := Lib.hid hg4
  have HG2 := Lib.hid hg2
  clear hg4 hg2
  have HSZ := Lib.hid (fun W (hW : Below w.heap.size w W) => psz_43 (some ⟨b, off, none⟩) n c zs W (HRG.out W hW) hn (by omega) h0)
  have CN1 := Lib.hid (fun W (hW : Below w.heap.size w W) => pnumber_any (some ⟨b, off, none⟩) n c zs 1 p W hp (HRG.out W hW) hx (by omega))
  have CN3 := Lib.hid (fun W (hW : Below w.heap.size w W) => pnumber_any (some ⟨b, off, none⟩) n c zs 3 q W hq (HRG.out W hW) hx (by omega))
  have hn0 : (0 : Int) < (n : Int) := by omega
  have hn1 : (1 : Int) < (n : Int) := by omega
  have hl2 : ¬ (n : Int) < 2 := by omega
  have h2c : (2 : Int) ≤ (n : Int) := by omega
  have h2d : ¬ c = 2 := by omega
  have ea : bits .andNot .u8 43 128 = 43 := by rw [andNot128 _ (by omega) (by omega)]; omega
  have wp : IntKind.u16.wrap p = p := IntWalk.u16_in _ (by omega)
  have wq : IntKind.u16.wrap q = q := IntWalk.u16_in _ (by omega)
  have eb : bits .and .u8 43 128 = 0 := by rw [and128 _ (by omega) (by omega)]; omega
  have CU := Lib.hid (fun W (hW : Below w.heap.size w W) => pdev7_0 b off n c zs 14 z2 z3 0 z5 (N : Int) N W (HRG.out W hW) hx h7 h7c hy1 hy2 hy3 hy4 hy5 hy6 rfl rfl rfl)
  have H7 := Lib.hid h7
  clear hy1 hy2 hy3 hy4 hy5 hy6 h7 h7c
  have HP := Lib.hid hp
  have HQ := Lib.hid hq
  have H0 := Lib.hid h0
  clear hr hx hcell hkw hkw1 hp hq h0
  go_enter Try.func26, Try.ntmps26
  go_upto_region 8 with (first
    | (go_at_call 51
       (with_reducible refine (HSZ.out _ ?_).mono ?_)
       · exact (Below.refl _ _).alloc (Nat.le_refl _) _
       rintro e w' ⟨rfl, rfl⟩)
    | (go_at_call 52
       (with_reducible refine (CN1.out _ ?_).mono ?_)
       · first | exact HKW.out | exact below_drewN HKW.out _
       rintro e w' ⟨rfl, d1, rfl⟩)
    | (go_at_call 52
       (with_reducible refine (CN3.out _ ?_).mono ?_)
       · first | exact HKW.out | exact below_drewN HKW.out _
       rintro e w' ⟨rfl, d3, rfl⟩))
  obtain ⟨w3, hw3, G4, G2, GB⟩ := named HG4 HG2 HKW (d1 + d3)
  have hz3 : w.heap.size + 1 < w3.heap.size := G4.out.lt
  obtain ⟨hs0, hs1, hs2, hs3, hs4, hs5, hs6, hs7, hs8, hs9, hs10, hs11, hs12, hs13⟩ := cells14 G4.out
  obtain ⟨hp0, hp1, hp2, hp3, hp4, hp5, hp6, hp7, hp8, hp9, hp10, hp11, hp12, hp13⟩ := cells14 G2.out
  obtain ⟨hf0, hf1, hf2, hf3, hf4, hf5, hf6, hf7, hf8, hf9, hf10, hf11, hf12, hf13⟩ := frozen14 G4.out
  obtain ⟨hg0, hg1, hg2, hg3, hg4, hg5, hg6, hg7, hg8, hg9, hg10, hg11, hg12, hg13⟩ := frozen14 G2.out
  rw [hw3]
  clear hw3 hc0 hc0b HSZ CN1 CN3
  go_wp2_with (first
    | (go_at_call 56
       (with_reducible refine (CU.out _ ?_).mono ?_)
       · first | exact GB.out | exact GB.out.drew | exact below_drewN GB.out _
       rintro e w5 ⟨OA, ol, oc, ok, rfl, hb5, hsome, hnone⟩
       have hb5' : Below w3.heap.size w3 w5 := by first | exact hb5 | exact (Below.refl _ _).drew.trans hb5
       have h1 := G4.out.below hb5' G4.out.lt
       have h0' := G2.out.below hb5' G2.out.lt
       have HB5 : Hid (Below w.heap.size w w5) := GB.out.trans (hb5'.mono GB.out.size)
       have hz5 : w.heap.size + 1 < w5.heap.size := h1.lt
       obtain ⟨ks0, ks1, ks2, ks3, ks4, ks5, ks6, ks7, ks8, ks9, ks10, ks11, ks12, ks13⟩ := cells14 h1
       obtain ⟨kp0, kp1, kp2, kp3, kp4, kp5, kp6, kp7, kp8, kp9, kp10, kp11, kp12, kp13⟩ := cells14 h0'
       obtain ⟨kf0, kf1, kf2, kf3, kf4, kf5, kf6, kf7, kf8, kf9, kf10, kf11, kf12, kf13⟩ := frozen14 h1
       obtain ⟨kg0, kg1, kg2, kg3, kg4, kg5, kg6, kg7, kg8, kg9, kg10, kg11, kg12, kg13⟩ := frozen14 h0'
       have HH1 := Lib.hid h1
       have HH0 := Lib.hid h0'
       have HSO := Lib.hid hsome
       have HNO := Lib.hid hnone
       have HZ3 := Lib.hid hz3
       clear h1 h0' hb5 hb5' hsome hnone))
  obtain ⟨X, hX⟩ : ∃ X, w5 = X := ⟨_, rfl⟩
  have hx0 := HH0.out
  have hxb := HB5.out
  rw [hX] at hx0 hxb
  rw [hX]
  exact end14 Try.results26 hx0 rfl hxb (Nat.le_refl _) rfl rfl fun w9 hbb hk => ⟨OA, ol, oc, ok, rfl, hbb, fun os h => ⟨(HSO.out os h).1, (HSO.out os h).2.1, (by have k := own2_mono (HSO.out os h).2.2 (show w.heap.size + 2 ≤ w3.heap.size + 2 by have := HZ3.out; omega); rw [hX] at k; exact own_blk k hk (show w.heap.size < w.heap.size + 2 by omega))⟩, HNO.out⟩

set_option maxRecDepth 100000 in
set_option maxHeartbeats 4000000 in
theorem pfl7_43_5 (b off n c : Nat) (zs : List Int) (m p q : Int) (z2 z3 z5 : Int) (N : Nat) (w : World) (hr : Row .u8 w w.heap.size (some ⟨b, off, none⟩) n zs) (hx : Bytes8 zs) (hn : n ≤ 1000) (h0 : zs.getD 0 0 = 43) (hc : n ≤ c) (hc2 : c ≠ 2) (hp : gotW zs n 1 = p) (hq : gotW zs n 3 = q) (h7 : n = 7) (h7c : c = 7) (hy1 : zs.getD 1 0 = 14) (hy2 : zs.getD 2 0 = z2) (hy3 : zs.getD 3 0 = z3) (hy4 : zs.getD 4 0 = 255) (hy5 : zs.getD 5 0 = z5) (hy6 : zs.getD 6 0 = (N : Int)) :
    Calls Try.prog 26 #[.slice (some ⟨b, off, none⟩) n c, .int .i64 m] w fun e w' => DevGottrue z2 z3 z5 N zs w e w' := by
  have h2n : 2 ≤ n := by omega
  obtain ⟨lop, hip⟩ := gotW_bounds hx n 1
  rw [hp] at lop hip
  obtain ⟨loq, hiq⟩ := gotW_bounds hx n 3
  rw [hq] at loq hiq
  obtain ⟨b', off', e1, hb, hcell⟩ := hr.2 (by omega)
  injection e1 with e1
  injection e1 with e1 e2
  subst e1 e2
  obtain ⟨hkw1, hkw, hg4, hg2⟩ := box2 w 28 [.int .i64 0, .int .i64 0, .slice none 0 0, .slice none 0 0, .int .i64 0, .int .i64 0, .int .u16 0, .int .u16 0, .int .u16 0, .int .i64 0, .int .i64 0, .bool false, .int .i64 0, .slice none 0 0] [.int .i64 43, .int .i64 0, .slice none 0 0, .slice none 0 0, .int .i64 0, .int .i64 0, .int .u16 0, .int .u16 0, .int .u16 0, .int .i64 0, .int .i64 0, .bool false, .int .i64 0, .slice none 0 0]
  have HCE := Lib.hid (fun X (hX : Below w.heap.size w X) j (hj : j < n) => (hX.cell (p := ⟨b, off + j, none⟩) hb).trans (hcell j hj))
  have hc0 := HCE.out _ hkw1 0 (by omega)
  rw [Nat.add_zero, h0] at hc0
  have hc0b := HCE.out _ hkw 0 (by omega)
  rw [Nat.add_zero, h0] at hc0b
  have HRG := Lib.hid (fun X (hX : Below w.heap.size w X) => (hr.below hX).more hX.size)
  have HTL := Lib.hid (fun X (hX : Below w.heap.size w X) => (((hr.below hX).more hX.size : Row .u8 X X.heap.size (some ⟨b, off, none⟩) n zs)).tail (l := 2) (q := n - 2) (by omega))
  have HX := Lib.hid hx
  have HKW := Lib.hid hkw
  have HG4 := Lib.hid hg4
  have HG2 := Lib.hid hg2
  clear hg4 hg2
  have HSZ := Lib.hid (fun W (hW : Below w.heap.size w W) => psz_43 (some ⟨b, off, none⟩) n c zs W (HRG.out W hW) hn (by omega) h0)
  have CN1 := Lib.hid (fun W (hW : Below w.heap.size w W) => pnumber_any (some ⟨b, off, none⟩) n c zs 1 p W hp (HRG.out W hW) hx (by omega))
  have CN3 := Lib.hid (fun W (hW : Below w.heap.size w W) => pnumber_any (some ⟨b, off, none⟩) n c zs 3 q W hq (HRG.out W hW) hx (by omega))
  have hn0 : (0 : Int) < (n : Int) := by omega
  have hn1 : (1 : Int) < (n : Int) := by omega
  have hl2 : ¬ (n : Int) < 2 := by omega
  have h2c : (2 : Int) ≤ (n : Int) := by omega
  have h2d : ¬ c = 2 := by omega
  have ea : bits .andNot .u8 43 128 = 43 := by rw [andNot128 _ (by omega) (by omega)]; omega
  have wp : IntKind.u16.wrap p = p := IntWalk.u16_in _ (by omega)
  have wq : IntKind.u16.wrap q = q := IntWalk.u16_in _ (by omega)
  have eb : bits .and .u8 43 128 = 0 := by rw [and128 _ (by omega) (by omega)]; omega
  have CU := Lib.hid (fun W (hW : Below w.heap.size w W) => pdev7_255 b off n c zs 14 z2 z3 255 z5 (N : Int) N W (HRG.out W hW) hx h7 h7c hy1 hy2 hy3 hy4 hy5 hy6 rfl rfl rfl)
  have H7 := Lib.hid h7
  clear hy1 hy2 hy3 hy4 hy5 hy6 h7 h7c
  have HP := Lib.hid hp
  have HQ := Lib.hid hq
  have H0 := Lib.hid h0
  clear hr hx hcell hkw hkw1 hp hq h0
  go_enter Try.func26, Try.ntmps26
  go_upto_region 8 with (first
    | (go_at_call 51
       (with_reducible refine (HSZ.out _ ?_).mono ?_)
       · exact (Below.refl _ _).alloc (Nat.le_refl _) _
       rintro e w' ⟨rfl, rfl⟩)
    | (go_at_call 52
       (with_reducible refine (CN1.out _ ?_).mono ?_)
       · first | exact HKW.out | exact below_drewN HKW.out _
       rintro e w' ⟨rfl, d1, rfl⟩)
    | (go_at_call 52
       (with_reducible refine (CN3.out _ ?_).mono ?_)
       · first | exact HKW.out | exact below_drewN HKW.out _
       rintro e w' ⟨rfl, d3, rfl⟩))
  obtain ⟨w3, hw3, G4, G2, GB⟩ := named HG4 HG2 HKW (d1 + d3)
  have hz3 : w.heap.size + 1 < w3.heap.size := G4.out.lt
  obtain ⟨hs0, hs1, hs2, hs3, hs4, hs5, hs6, hs7, hs8, hs9, hs10, hs11, hs12, hs13⟩ := cells14 G4.out
  obtain ⟨hp0, hp1, hp2, hp3, hp4, hp5, hp6, hp7, hp8, hp9, hp10, hp11, hp12, hp13⟩ := cells14 G2.out
  obtain ⟨hf0, hf1, hf2, hf3, hf4, hf5, hf6, hf7, hf8, hf9, hf10, hf11, hf12, hf13⟩ := frozen14 G4.out
  obtain ⟨hg0, hg1, hg2, hg3, hg4, hg5, hg6, hg7, hg8, hg9, hg10, hg11, hg12, hg13⟩ := frozen14 G2.out
  rw [hw3]
  clear hw3 hc0 hc0b HSZ CN1 CN3
  go_wp2_with (first
    | (go_at_call 56
       (with_reducible refine (CU.out _ ?_).mono ?_)
       · first | exact GB.out | exact GB.out.drew | exact below_drewN GB.out _
       rintro e w5 ⟨OA, ol, oc, ok, rfl, hb5, hsome, hnone⟩
       have hb5' : Below w3.heap.size w3 w5 := by first | exact hb5 | exact (Below.refl _ _).drew.trans hb5
       have h1 := G4.out.below hb5' G4.out.lt
       have h0' := G2.out.below hb5' G2.out.lt
       have HB5 : Hid (Below w.heap.size w w5) := GB.out.trans (hb5'.mono GB.out.size)
       have hz5 : w.heap.size + 1 < w5.heap.size := h1.lt
       obtain ⟨ks0, ks1, ks2, ks3, ks4, ks5, ks6, ks7, ks8, ks9, ks10, ks11, ks12, ks13⟩ := cells14 h1
       obtain ⟨kp0, kp1, kp2, kp3, kp4, kp5, kp6, kp7, kp8, kp9, kp10, kp11, kp12, kp13⟩ := cells14 h0'
       obtain ⟨kf0, kf1, kf2, kf3, kf4, kf5, kf6, kf7, kf8, kf9, kf10, kf11, kf12, kf13⟩ := frozen14 h1
       obtain ⟨kg0, kg1, kg2, kg3, kg4, kg5, kg6, kg7, kg8, kg9, kg10, kg11, kg12, kg13⟩ := frozen14 h0'
       have HH1 := Lib.hid h1
       have HH0 := Lib.hid h0'
       have HSO := Lib.hid hsome
       have HNO := Lib.hid hnone
       have HZ3 := Lib.hid hz3
       clear h1 h0' hb5 hb5' hsome hnone))
  obtain ⟨X, hX⟩ : ∃ X, w5 = X := ⟨_, rfl⟩
  have hx0 := HH0.out
  have hxb := HB5.out
  rw [hX] at hx0 hxb
  rw [hX]
  exact end14 Try.results26 hx0 rfl hxb (Nat.le_refl _) rfl rfl fun w9 hbb hk => ⟨OA, ol, oc, ok, rfl, hbb, fun os h => ⟨(HSO.out os h).1, (HSO.out os h).2.1, (by have k := own2_mono (HSO.out os h).2.2 (show w.heap.size + 2 ≤ w3.heap.size + 2 by have := HZ3.out; omega); rw [hX] at k; exact own_blk k hk (show w.heap.size < w.heap.size + 2 by omega))⟩, HNO.out⟩

/-- The same behind a draw. -/
theorem end14d {F : Func} {p u : Tmp} (hF : F.results = #[.cell p 28, .tmp u]) {X : World} {g : Nat} {T : TypeId} {olds : List Value} (hx : WholeV X g T olds) (hl : olds.length = 14) {B : Nat} {a : World} (hb : Below B a X) (hg : B ≤ g)
    {tmps : Array Value} {b0 b1 b2 b3 b4 b5 b6 b7 b8 b9 b10 b11 b12 b13 v : Value} {Q : Ending → World → Prop} (hp : tmps.getD p undef = .pointer (some ⟨g, 0, none⟩)) (hu : tmps.getD u undef = v)
    (hQ : ∀ w9, Below B a w9 → Q (.returned (.tuple #[.agg #[b0, b1, b2, b3, b4, b5, b6, b7, b8, b9, b10, b11, b12, b13], v])) w9) :
    bodyPost Try.prog F Q .ret ⟨tmps, []⟩ (((((((((((((((X.setCell ⟨g, 0, none⟩ b0).setCell ⟨g, 1, none⟩ b1).setCell ⟨g, 2, none⟩ b2).setCell ⟨g, 3, none⟩ b3).setCell ⟨g, 4, none⟩ b4).setCell ⟨g, 5, none⟩ b5).setCell ⟨g, 6, none⟩ b6).setCell ⟨g, 7, none⟩ b7).setCell ⟨g, 8, none⟩ b8).setCell ⟨g, 9, none⟩ b9).setCell ⟨g, 10, none⟩ b10).setCell ⟨g, 11, none⟩ b11).setCell ⟨g, 12, none⟩ b12).setCell ⟨g, 13, none⟩ b13)).drew := by
  have h9 := all14 hx b0 b1 b2 b3 b4 b5 b6 b7 b8 b9 b10 b11 b12 b13 hl
  have hb9 := below14 hb hg b0 b1 b2 b3 b4 b5 b6 b7 b8 b9 b10 b11 b12 b13
  obtain ⟨w9, hw9⟩ : ∃ w9, ((((((((((((((X.setCell ⟨g, 0, none⟩ b0).setCell ⟨g, 1, none⟩ b1).setCell ⟨g, 2, none⟩ b2).setCell ⟨g, 3, none⟩ b3).setCell ⟨g, 4, none⟩ b4).setCell ⟨g, 5, none⟩ b5).setCell ⟨g, 6, none⟩ b6).setCell ⟨g, 7, none⟩ b7).setCell ⟨g, 8, none⟩ b8).setCell ⟨g, 9, none⟩ b9).setCell ⟨g, 10, none⟩ b10).setCell ⟨g, 11, none⟩ b11).setCell ⟨g, 12, none⟩ b12).setCell ⟨g, 13, none⟩ b13) = w9 := ⟨_, rfl⟩
  rw [hw9] at h9 hb9 ⊢
  refine bodyPost_ret (v := .tuple #[.agg #[b0, b1, b2, b3, b4, b5, b6, b7, b8, b9, b10, b11, b12, b13], v]) ?_ rfl (hQ _ hb9.drew)
  rw [results_cell_tmp hF]
  have hld := load14 (w := w9.drew) (h9.drewN 1)
  show ((asAddr (tmps.getD p undef)).run Try.prog _).andThen _ = _
  rw [hp]
  simp only [asAddr, Sem.run_pure, Result.andThen_ok, hld]
  rw [show (Act.tmps ⟨tmps, []⟩).getD u undef = v from hu]

set_option maxRecDepth 100000 in
set_option maxHeartbeats 4000000 in
theorem pfl_w_no_3 (b off n c : Nat) (zs : List Int) (m p q : Int) (t : Nat) (w : World) (hr : Row .u8 w w.heap.size (some ⟨b, off, none⟩) n zs) (hx : Bytes8 zs) (hn : n ≤ 1000) (h0 : zs.getD 0 0 = 3) (hc : n ≤ c) (hc2 : c ≠ 2) (hp : gotW zs n 1 = p) (hq : gotW zs n 3 = q) (hu : zs.getD 1 0 = (t : Int)) (hnt : n = 2 + t) (hodd : t % 2 = 1) :
    Calls Try.prog 26 #[.slice (some ⟨b, off, none⟩) n c, .int .i64 m] w fun e w' => e = .returned (.tuple #[.agg #[.int .i64 3, .int .i64 0, .slice none 0 0, .slice none 0 0, .int .i64 0, .int .i64 0, .int .u16 0, .int .u16 0, .int .u16 0, .int .i64 0, .int .i64 0, .bool false, .int .i64 0, .slice none 0 0], .bool false]) ∧ Below w.heap.size w w' := by
  have h2n : 2 ≤ n := by omega
  obtain ⟨lop, hip⟩ := gotW_bounds hx n 1
  rw [hp] at lop hip
  obtain ⟨loq, hiq⟩ := gotW_bounds hx n 3
  rw [hq] at loq hiq
  obtain ⟨b', off', e1, hb, hcell⟩ := hr.2 (by omega)
  injection e1 with e1
  injection e1 with e1 e2
  subst e1 e2
  obtain ⟨hkw1, hkw, hg4, hg2⟩ := box2 w 28 [.int .i64 0, .int .i64 0, .slice none 0 0, .slice none 0 0, .int .i64 0, .int .i64 0, .int .u16 0, .int .u16 0, .int .u16 0, .int .i64 0, .int .i64 0, .bool false, .int .i64 0, .slice none 0 0] [.int .i64 3, .int .i64 0, .slice none 0 0, .slice none 0 0, .int .i64 0, .int .i64 0, .int .u16 0, .int .u16 0, .int .u16 0, .int .i64 0, .int .i64 0, .bool false, .int .i64 0, .slice none 0 0]
  have HCE := Lib.hid (fun X (hX : Below w.heap.size w X) j (hj : j < n) => (hX.cell (p := ⟨b, off + j, none⟩) hb).trans (hcell j hj))
  have hc0 := HCE.out _ hkw1 0 (by omega)
  rw [Nat.add_zero, h0] at hc0
  have hc0b := HCE.out _ hkw 0 (by omega)
  rw [Nat.add_zero, h0] at hc0b
  have HRG := Lib.hid (fun X (hX : Below w.heap.size w X) => (hr.below hX).more hX.size)
  have HTL := Lib.hid (fun X (hX : Below w.heap.size w X) => (((hr.below hX).more hX.size : Row .u8 X X.heap.size (some ⟨b, off, none⟩) n zs)).tail (l := 2) (q := n - 2) (by omega))
  have HX := Lib.hid hx
  have HKW := Lib.hid hkw
  have HG4 := Lib.hid hg4
  have HG2 := Lib.hid hg2
  clear hg4 hg2
  have HSZ := Lib.hid (fun W (hW : Below w.heap.size w W) => show Calls Try.prog 51 #[.slice (some ⟨b, off, none⟩) n c] W (fun e w1 => e = .returned (.int .i64 (n : Int)) ∧ W = w1) from by have h := psz_list (some ⟨b, off, none⟩) n c zs W 3 (t : Int) (HRG.out W hW) hx hn (by omega) h0 (by omega) hu; rw [show (n : Int) = 2 + (t : Int) by omega]; exact h)
  have CN1 := Lib.hid (fun W (hW : Below w.heap.size w W) => pnumber_any (some ⟨b, off, none⟩) n c zs 1 p W hp (HRG.out W hW) hx (by omega))
  have CN3 := Lib.hid (fun W (hW : Below w.heap.size w W) => pnumber_any (some ⟨b, off, none⟩) n c zs 3 q W hq (HRG.out W hW) hx (by omega))
  have hn0 : (0 : Int) < (n : Int) := by omega
  have hn1 : (1 : Int) < (n : Int) := by omega
  have hl2 : ¬ (n : Int) < 2 := by omega
  have h2c : (2 : Int) ≤ (n : Int) := by omega
  have h2d : ¬ c = 2 := by omega
  have ea : bits .andNot .u8 3 128 = 3 := by rw [andNot128 _ (by omega) (by omega)]; omega
  have wp : IntKind.u16.wrap p = p := IntWalk.u16_in _ (by omega)
  have wq : IntKind.u16.wrap q = q := IntWalk.u16_in _ (by omega)
  have eb : bits .and .u8 3 128 = 0 := by rw [and128 _ (by omega) (by omega)]; omega
  have hn2t : n - 2 = t := by omega
  have HNT := Lib.hid hnt
  rw [hn2t] at HTL
  have hc1 := HCE.out
  clear hc1
  have CU := Lib.hid (fun (d : Nat) W => punpacked_no (some ⟨b, off + 2, none⟩) t d ((t : Int) / 2) W (by omega) (by omega) (by omega) (by omega))
  have hc1t := fun X hX => (HCE.out X hX 1 (by omega)).trans (by rw [hu])
  have HC1 := Lib.hid hc1t
  have ht255 : t ≤ 255 := by have := (hx.at_ 1).2; change zs.getD 1 0 ≤ 255 at this; omega
  have wti : IntKind.i64.wrap (t : Int) = (t : Int) := IntWalk.i64_in _ (by omega)
  clear hc1t hnt hu hodd
  have HP := Lib.hid hp
  have HQ := Lib.hid hq
  have H0 := Lib.hid h0
  clear hr hx hcell hkw hkw1 hp hq h0
  go_enter Try.func26, Try.ntmps26
  go_upto_region 8 with (first
    | (go_at_call 51
       (with_reducible refine (HSZ.out _ ?_).mono ?_)
       · exact (Below.refl _ _).alloc (Nat.le_refl _) _
       rintro e w' ⟨rfl, rfl⟩)
    | (go_at_call 52
       (with_reducible refine (CN1.out _ ?_).mono ?_)
       · first | exact HKW.out | exact below_drewN HKW.out _
       rintro e w' ⟨rfl, d1, rfl⟩)
    | (go_at_call 52
       (with_reducible refine (CN3.out _ ?_).mono ?_)
       · first | exact HKW.out | exact below_drewN HKW.out _
       rintro e w' ⟨rfl, d3, rfl⟩))
  obtain ⟨w3, hw3, G4, G2, GB⟩ := named HG4 HG2 HKW (d1 + d3)
  have hz3 : w.heap.size + 1 < w3.heap.size := G4.out.lt
  obtain ⟨hs0, hs1, hs2, hs3, hs4, hs5, hs6, hs7, hs8, hs9, hs10, hs11, hs12, hs13⟩ := cells14 G4.out
  obtain ⟨hp0, hp1, hp2, hp3, hp4, hp5, hp6, hp7, hp8, hp9, hp10, hp11, hp12, hp13⟩ := cells14 G2.out
  obtain ⟨hf0, hf1, hf2, hf3, hf4, hf5, hf6, hf7, hf8, hf9, hf10, hf11, hf12, hf13⟩ := frozen14 G4.out
  obtain ⟨hg0, hg1, hg2, hg3, hg4, hg5, hg6, hg7, hg8, hg9, hg10, hg11, hg12, hg13⟩ := frozen14 G2.out
  rw [hw3]
  clear hw3 hc0 hc0b HSZ CN1 CN3
  have hcw : w3.cell? ⟨b, off + 1, none⟩ = some (.int .u8 (t : Int)) := HC1.out w3 GB.out
  go_upto_region 21 with fail
  go_region_law (first
    | (go_simp; go_at_call 54; (with_reducible refine (CU.out _ _).mono ?_); rintro e w5 ⟨rfl, rfl⟩))
  all_goals
    go_wp2_with fail
    obtain ⟨X, hX⟩ : ∃ X, (w3.setCell ⟨w.heap.size + 1, 3, none⟩ (.slice none 0 0)) = X := ⟨_, rfl⟩
    have hx0 := (whole_far G2.out (show w.heap.size ≠ w.heap.size + 1 by omega) 3 (.slice none 0 0))
    have hxb := (GB.out.setCell (p := ⟨w.heap.size + 1, 3, none⟩) (Nat.le_succ _) (.slice none 0 0))
    rw [hX] at hx0 hxb
    rw [hX]
    exact end14d Try.results26 hx0 rfl hxb (Nat.le_refl _) rfl rfl fun w9 hbb => ⟨rfl, hbb⟩

set_option maxRecDepth 100000 in
set_option maxHeartbeats 4000000 in
theorem pfl_w_no_4 (b off n c : Nat) (zs : List Int) (m p q : Int) (t : Nat) (w : World) (hr : Row .u8 w w.heap.size (some ⟨b, off, none⟩) n zs) (hx : Bytes8 zs) (hn : n ≤ 1000) (h0 : zs.getD 0 0 = 4) (hc : n ≤ c) (hc2 : c ≠ 2) (hp : gotW zs n 1 = p) (hq : gotW zs n 3 = q) (hu : zs.getD 1 0 = (t : Int)) (hnt : n = 2 + t) (hodd : t % 2 = 1) :
    Calls Try.prog 26 #[.slice (some ⟨b, off, none⟩) n c, .int .i64 m] w fun e w' => e = .returned (.tuple #[.agg #[.int .i64 4, .int .i64 0, .slice none 0 0, .slice none 0 0, .int .i64 0, .int .i64 0, .int .u16 0, .int .u16 0, .int .u16 0, .int .i64 0, .int .i64 0, .bool false, .int .i64 0, .slice none 0 0], .bool false]) ∧ Below w.heap.size w w' := by
  have h2n : 2 ≤ n := by omega
  obtain ⟨lop, hip⟩ := gotW_bounds hx n 1
  rw [hp] at lop hip
  obtain ⟨loq, hiq⟩ := gotW_bounds hx n 3
  rw [hq] at loq hiq
  obtain ⟨b', off', e1, hb, hcell⟩ := hr.2 (by omega)
  injection e1 with e1
  injection e1 with e1 e2
  subst e1 e2
  obtain ⟨hkw1, hkw, hg4, hg2⟩ := box2 w 28 [.int .i64 0, .int .i64 0, .slice none 0 0, .slice none 0 0, .int .i64 0, .int .i64 0, .int .u16 0, .int .u16 0, .int .u16 0, .int .i64 0, .int .i64 0, .bool false, .int .i64 0, .slice none 0 0] [.int .i64 4, .int .i64 0, .slice none 0 0, .slice none 0 0, .int .i64 0, .int .i64 0, .int .u16 0, .int .u16 0, .int .u16 0, .int .i64 0, .int .i64 0, .bool false, .int .i64 0, .slice none 0 0]
  have HCE := Lib.hid (fun X (hX : Below w.heap.size w X) j (hj : j < n) => (hX.cell (p := ⟨b, off + j, none⟩) hb).trans (hcell j hj))
  have hc0 := HCE.out _ hkw1 0 (by omega)
  rw [Nat.add_zero, h0] at hc0
  have hc0b := HCE.out _ hkw 0 (by omega)
  rw [Nat.add_zero, h0] at hc0b
  have HRG := Lib.hid (fun X (hX : Below w.heap.size w X) => (hr.below hX).more hX.size)
  have HTL := Lib.hid (fun X (hX : Below w.heap.size w X) => (((hr.below hX).more hX.size : Row .u8 X X.heap.size (some ⟨b, off, none⟩) n zs)).tail (l := 2) (q := n - 2) (by omega))
  have HX := Lib.hid hx
  have HKW := Lib.hid hkw
  have HG4 := Lib.hid hg4
  have HG2 := Lib.hid hg2
  clear hg4 hg2
  have HSZ := Lib.hid (fun W (hW : Below w.heap.size w W) => show Calls Try.prog 51 #[.slice (some ⟨b, off, none⟩) n c] W (fun e w1 => e = .returned (.int .i64 (n : Int)) ∧ W = w1) from by have h := psz_list (some ⟨b, off, none⟩) n c zs W 4 (t : Int) (HRG.out W hW) hx hn (by omega) h0 (by omega) hu; rw [show (n : Int) = 2 + (t : Int) by omega]; exact h)
  have CN1 := Lib.hid (fun W (hW : Below w.heap.size w W) => pnumber_any (some ⟨b, off, none⟩) n c zs 1 p W hp (HRG.out W hW) hx (by omega))
  have CN3 := Lib.hid (fun W (hW : Below w.heap.size w W) => pnumber_any (some ⟨b, off, none⟩) n c zs 3 q W hq (HRG.out W hW) hx (by omega))
  have hn0 : (0 : Int) < (n : Int) := by omega
  have hn1 : (1 : Int) < (n : Int) := by omega
  have hl2 : ¬ (n : Int) < 2 := by omega
  have h2c : (2 : Int) ≤ (n : Int) := by omega
  have h2d : ¬ c = 2 := by omega
  have ea : bits .andNot .u8 4 128 = 4 := by rw [andNot128 _ (by omega) (by omega)]; omega
  have wp : IntKind.u16.wrap p = p := IntWalk.u16_in _ (by omega)
  have wq : IntKind.u16.wrap q = q := IntWalk.u16_in _ (by omega)
  have eb : bits .and .u8 4 128 = 0 := by rw [and128 _ (by omega) (by omega)]; omega
  have hn2t : n - 2 = t := by omega
  have HNT := Lib.hid hnt
  rw [hn2t] at HTL
  have hc1 := HCE.out
  clear hc1
  have CU := Lib.hid (fun (d : Nat) W => punpacked_no (some ⟨b, off + 2, none⟩) t d ((t : Int) / 2) W (by omega) (by omega) (by omega) (by omega))
  have hc1t := fun X hX => (HCE.out X hX 1 (by omega)).trans (by rw [hu])
  have HC1 := Lib.hid hc1t
  have ht255 : t ≤ 255 := by have := (hx.at_ 1).2; change zs.getD 1 0 ≤ 255 at this; omega
  have wti : IntKind.i64.wrap (t : Int) = (t : Int) := IntWalk.i64_in _ (by omega)
  clear hc1t hnt hu hodd
  have HP := Lib.hid hp
  have HQ := Lib.hid hq
  have H0 := Lib.hid h0
  clear hr hx hcell hkw hkw1 hp hq h0
  go_enter Try.func26, Try.ntmps26
  go_upto_region 8 with (first
    | (go_at_call 51
       (with_reducible refine (HSZ.out _ ?_).mono ?_)
       · exact (Below.refl _ _).alloc (Nat.le_refl _) _
       rintro e w' ⟨rfl, rfl⟩)
    | (go_at_call 52
       (with_reducible refine (CN1.out _ ?_).mono ?_)
       · first | exact HKW.out | exact below_drewN HKW.out _
       rintro e w' ⟨rfl, d1, rfl⟩)
    | (go_at_call 52
       (with_reducible refine (CN3.out _ ?_).mono ?_)
       · first | exact HKW.out | exact below_drewN HKW.out _
       rintro e w' ⟨rfl, d3, rfl⟩))
  obtain ⟨w3, hw3, G4, G2, GB⟩ := named HG4 HG2 HKW (d1 + d3)
  have hz3 : w.heap.size + 1 < w3.heap.size := G4.out.lt
  obtain ⟨hs0, hs1, hs2, hs3, hs4, hs5, hs6, hs7, hs8, hs9, hs10, hs11, hs12, hs13⟩ := cells14 G4.out
  obtain ⟨hp0, hp1, hp2, hp3, hp4, hp5, hp6, hp7, hp8, hp9, hp10, hp11, hp12, hp13⟩ := cells14 G2.out
  obtain ⟨hf0, hf1, hf2, hf3, hf4, hf5, hf6, hf7, hf8, hf9, hf10, hf11, hf12, hf13⟩ := frozen14 G4.out
  obtain ⟨hg0, hg1, hg2, hg3, hg4, hg5, hg6, hg7, hg8, hg9, hg10, hg11, hg12, hg13⟩ := frozen14 G2.out
  rw [hw3]
  clear hw3 hc0 hc0b HSZ CN1 CN3
  have hcw : w3.cell? ⟨b, off + 1, none⟩ = some (.int .u8 (t : Int)) := HC1.out w3 GB.out
  go_upto_region 21 with fail
  go_region_law (first
    | (go_simp; go_at_call 54; (with_reducible refine (CU.out _ _).mono ?_); rintro e w5 ⟨rfl, rfl⟩))
  all_goals
    go_wp2_with fail
    obtain ⟨X, hX⟩ : ∃ X, (w3.setCell ⟨w.heap.size + 1, 3, none⟩ (.slice none 0 0)) = X := ⟨_, rfl⟩
    have hx0 := (whole_far G2.out (show w.heap.size ≠ w.heap.size + 1 by omega) 3 (.slice none 0 0))
    have hxb := (GB.out.setCell (p := ⟨w.heap.size + 1, 3, none⟩) (Nat.le_succ _) (.slice none 0 0))
    rw [hX] at hx0 hxb
    rw [hX]
    exact end14d Try.results26 hx0 rfl hxb (Nat.le_refl _) rfl rfl fun w9 hbb => ⟨rfl, hbb⟩

set_option maxRecDepth 100000 in
set_option maxHeartbeats 4000000 in
theorem pfl_w_no_23 (b off n c : Nat) (zs : List Int) (m p q : Int) (t : Nat) (w : World) (hr : Row .u8 w w.heap.size (some ⟨b, off, none⟩) n zs) (hx : Bytes8 zs) (hn : n ≤ 1000) (h0 : zs.getD 0 0 = 23) (hc : n ≤ c) (hc2 : c ≠ 2) (hp : gotW zs n 1 = p) (hq : gotW zs n 3 = q) (hu : zs.getD 1 0 = (t : Int)) (hnt : n = 2 + t) (hodd : t % 2 = 1) :
    Calls Try.prog 26 #[.slice (some ⟨b, off, none⟩) n c, .int .i64 m] w fun e w' => e = .returned (.tuple #[.agg #[.int .i64 23, .int .i64 0, .slice none 0 0, .slice none 0 0, .int .i64 0, .int .i64 0, .int .u16 0, .int .u16 0, .int .u16 0, .int .i64 0, .int .i64 0, .bool false, .int .i64 0, .slice none 0 0], .bool false]) ∧ Below w.heap.size w w' := by
  have h2n : 2 ≤ n := by omega
  obtain ⟨lop, hip⟩ := gotW_bounds hx n 1
  rw [hp] at lop hip
  obtain ⟨loq, hiq⟩ := gotW_bounds hx n 3
  rw [hq] at loq hiq
  obtain ⟨b', off', e1, hb, hcell⟩ := hr.2 (by omega)
  injection e1 with e1
  injection e1 with e1 e2
  subst e1 e2
  obtain ⟨hkw1, hkw, hg4, hg2⟩ := box2 w 28 [.int .i64 0, .int .i64 0, .slice none 0 0, .slice none 0 0, .int .i64 0, .int .i64 0, .int .u16 0, .int .u16 0, .int .u16 0, .int .i64 0, .int .i64 0, .bool false, .int .i64 0, .slice none 0 0] [.int .i64 23, .int .i64 0, .slice none 0 0, .slice none 0 0, .int .i64 0, .int .i64 0, .int .u16 0, .int .u16 0, .int .u16 0, .int .i64 0, .int .i64 0, .bool false, .int .i64 0, .slice none 0 0]
  have HCE := Lib.hid (fun X (hX : Below w.heap.size w X) j (hj : j < n) => (hX.cell (p := ⟨b, off + j, none⟩) hb).trans (hcell j hj))
  have hc0 := HCE.out _ hkw1 0 (by omega)
  rw [Nat.add_zero, h0] at hc0
  have hc0b := HCE.out _ hkw 0 (by omega)
  rw [Nat.add_zero, h0] at hc0b
  have HRG := Lib.hid (fun X (hX : Below w.heap.size w X) => (hr.below hX).more hX.size)
  have HTL := Lib.hid (fun X (hX : Below w.heap.size w X) => (((hr.below hX).more hX.size : Row .u8 X X.heap.size (some ⟨b, off, none⟩) n zs)).tail (l := 2) (q := n - 2) (by omega))
  have HX := Lib.hid hx
  have HKW := Lib.hid hkw
  have HG4 := Lib.hid hg4
  have HG2 := Lib.hid hg2
  clear hg4 hg2
  have HSZ := Lib.hid (fun W (hW : Below w.heap.size w W) => show Calls Try.prog 51 #[.slice (some ⟨b, off, none⟩) n c] W (fun e w1 => e = .returned (.int .i64 (n : Int)) ∧ W = w1) from by have h := psz_list (some ⟨b, off, none⟩) n c zs W 23 (t : Int) (HRG.out W hW) hx hn (by omega) h0 (by omega) hu; rw [show (n : Int) = 2 + (t : Int) by omega]; exact h)
  have CN1 := Lib.hid (fun W (hW : Below w.heap.size w W) => pnumber_any (some ⟨b, off, none⟩) n c zs 1 p W hp (HRG.out W hW) hx (by omega))
  have CN3 := Lib.hid (fun W (hW : Below w.heap.size w W) => pnumber_any (some ⟨b, off, none⟩) n c zs 3 q W hq (HRG.out W hW) hx (by omega))
  have hn0 : (0 : Int) < (n : Int) := by omega
  have hn1 : (1 : Int) < (n : Int) := by omega
  have hl2 : ¬ (n : Int) < 2 := by omega
  have h2c : (2 : Int) ≤ (n : Int) := by omega
  have h2d : ¬ c = 2 := by omega
  have ea : bits .andNot .u8 23 128 = 23 := by rw [andNot128 _ (by omega) (by omega)]; omega
  have wp : IntKind.u16.wrap p = p := IntWalk.u16_in _ (by omega)
  have wq : IntKind.u16.wrap q = q := IntWalk.u16_in _ (by omega)
  have eb : bits .and .u8 23 128 = 0 := by rw [and128 _ (by omega) (by omega)]; omega
  have hn2t : n - 2 = t := by omega
  have HNT := Lib.hid hnt
  rw [hn2t] at HTL
  have hc1 := HCE.out
  clear hc1
  have CU := Lib.hid (fun (d : Nat) W => punpacked_no (some ⟨b, off + 2, none⟩) t d ((t : Int) / 2) W (by omega) (by omega) (by omega) (by omega))
  have hc1t := fun X hX => (HCE.out X hX 1 (by omega)).trans (by rw [hu])
  have HC1 := Lib.hid hc1t
  have ht255 : t ≤ 255 := by have := (hx.at_ 1).2; change zs.getD 1 0 ≤ 255 at this; omega
  have wti : IntKind.i64.wrap (t : Int) = (t : Int) := IntWalk.i64_in _ (by omega)
  clear hc1t hnt hu hodd
  have HP := Lib.hid hp
  have HQ := Lib.hid hq
  have H0 := Lib.hid h0
  clear hr hx hcell hkw hkw1 hp hq h0
  go_enter Try.func26, Try.ntmps26
  go_upto_region 8 with (first
    | (go_at_call 51
       (with_reducible refine (HSZ.out _ ?_).mono ?_)
       · exact (Below.refl _ _).alloc (Nat.le_refl _) _
       rintro e w' ⟨rfl, rfl⟩)
    | (go_at_call 52
       (with_reducible refine (CN1.out _ ?_).mono ?_)
       · first | exact HKW.out | exact below_drewN HKW.out _
       rintro e w' ⟨rfl, d1, rfl⟩)
    | (go_at_call 52
       (with_reducible refine (CN3.out _ ?_).mono ?_)
       · first | exact HKW.out | exact below_drewN HKW.out _
       rintro e w' ⟨rfl, d3, rfl⟩))
  obtain ⟨w3, hw3, G4, G2, GB⟩ := named HG4 HG2 HKW (d1 + d3)
  have hz3 : w.heap.size + 1 < w3.heap.size := G4.out.lt
  obtain ⟨hs0, hs1, hs2, hs3, hs4, hs5, hs6, hs7, hs8, hs9, hs10, hs11, hs12, hs13⟩ := cells14 G4.out
  obtain ⟨hp0, hp1, hp2, hp3, hp4, hp5, hp6, hp7, hp8, hp9, hp10, hp11, hp12, hp13⟩ := cells14 G2.out
  obtain ⟨hf0, hf1, hf2, hf3, hf4, hf5, hf6, hf7, hf8, hf9, hf10, hf11, hf12, hf13⟩ := frozen14 G4.out
  obtain ⟨hg0, hg1, hg2, hg3, hg4, hg5, hg6, hg7, hg8, hg9, hg10, hg11, hg12, hg13⟩ := frozen14 G2.out
  rw [hw3]
  clear hw3 hc0 hc0b HSZ CN1 CN3
  have hcw : w3.cell? ⟨b, off + 1, none⟩ = some (.int .u8 (t : Int)) := HC1.out w3 GB.out
  go_upto_region 21 with fail
  go_region_law (first
    | (go_simp; go_at_call 54; (with_reducible refine (CU.out _ _).mono ?_); rintro e w5 ⟨rfl, rfl⟩))
  all_goals
    go_wp2_with fail
    obtain ⟨X, hX⟩ : ∃ X, (w3.setCell ⟨w.heap.size + 1, 3, none⟩ (.slice none 0 0)) = X := ⟨_, rfl⟩
    have hx0 := (whole_far G2.out (show w.heap.size ≠ w.heap.size + 1 by omega) 3 (.slice none 0 0))
    have hxb := (GB.out.setCell (p := ⟨w.heap.size + 1, 3, none⟩) (Nat.le_succ _) (.slice none 0 0))
    rw [hX] at hx0 hxb
    rw [hX]
    exact end14d Try.results26 hx0 rfl hxb (Nat.le_refl _) rfl rfl fun w9 hbb => ⟨rfl, hbb⟩

end Go.Proofs.Ytielfekkonflfaa

/- Joined: PFl1 PFl5 PFl2. -/
import Derived.Test.YtielfekkonflfaaJTellBack5
import Derived.Test.YtielfekkonflfaaJTellBack2
import Derived.Deep.CutBlock
import Derived.Deep.RegionLaw
namespace Go.Proofs.Ytielfekkonflfaa
open Go.ChangeShapes Go.WideShapes Go.ChangeAt Go.RowKit
set_option linter.unusedVariables false
set_option linter.unusedSimpArgs false

set_option maxRecDepth 100000 in
set_option maxHeartbeats 4000000 in
theorem pfl_22 (b off n c : Nat) (zs : List Int) (m p q : Int) (t : Int) (w : World) (hr : Row .u8 w w.heap.size (some ⟨b, off, none⟩) n zs) (hx : Bytes8 zs) (hn : n ≤ 1000) (h0 : zs.getD 0 0 = 22) (hc : n ≤ c) (hc2 : c ≠ 2) (hp : gotW zs n 1 = p) (hq : gotW zs n 3 = q) (hn7 : n = 7) (ht : gotW zs n 5 = t) :
    Calls Try.prog 26 #[.slice (some ⟨b, off, none⟩) n c, .int .i64 m] w fun e w' => e = .returned (.tuple #[.agg #[.int .i64 22, .int .i64 0, .slice none 0 0, .slice none 0 0, .int .i64 p, .int .i64 0, .int .u16 0, .int .u16 q, .int .u16 t, .int .i64 0, .int .i64 0, .bool false, .int .i64 0, .slice none 0 0], .bool true]) ∧ Below w.heap.size w w' := by
  have h2n : 2 ≤ n := by omega
  obtain ⟨lop, hip⟩ := gotW_bounds hx n 1
  rw [hp] at lop hip
  obtain ⟨loq, hiq⟩ := gotW_bounds hx n 3
  rw [hq] at loq hiq
  obtain ⟨b', off', e1, hb, hcell⟩ := hr.2 (by omega)
  injection e1 with e1
  injection e1 with e1 e2
  subst e1 e2
  obtain ⟨hkw1, hkw, hg4, hg2⟩ := box2 w 28 [.int .i64 0, .int .i64 0, .slice none 0 0, .slice none 0 0, .int .i64 0, .int .i64 0, .int .u16 0, .int .u16 0, .int .u16 0, .int .i64 0, .int .i64 0, .bool false, .int .i64 0, .slice none 0 0] [.int .i64 22, .int .i64 0, .slice none 0 0, .slice none 0 0, .int .i64 0, .int .i64 0, .int .u16 0, .int .u16 0, .int .u16 0, .int .i64 0, .int .i64 0, .bool false, .int .i64 0, .slice none 0 0]
  have HCE := Lib.hid (fun X (hX : Below w.heap.size w X) j (hj : j < n) => (hX.cell (p := ⟨b, off + j, none⟩) hb).trans (hcell j hj))
  have hc0 := HCE.out _ hkw1 0 (by omega)
  rw [Nat.add_zero, h0] at hc0
  have hc0b := HCE.out _ hkw 0 (by omega)
  rw [Nat.add_zero, h0] at hc0b
  have HRG := Lib.hid (fun X (hX : Below w.heap.size w X) => (hr.below hX).more hX.size)
  have HTL := Lib.hid (fun X (hX : Below w.heap.size w X) => (((hr.below hX).more hX.size : Row .u8 X X.heap.size (some ⟨b, off, none⟩) n zs)).tail (l := 2) (q := n - 2) (by omega))
  have HX := Lib.hid hx
  have HKW := Lib.hid hkw
  have HG4 := Lib.hid hg4
  have HG2 := Lib.hid hg2
  clear hg4 hg2
  have HSZ := Lib.hid (fun W (hW : Below w.heap.size w W) => show Calls Try.prog 51 #[.slice (some ⟨b, off, none⟩) n c] W (fun e w1 => e = .returned (.int .i64 (n : Int)) ∧ W = w1) from by have h := psz_22 (some ⟨b, off, none⟩) n c zs W (HRG.out W hW) hn (by omega) h0; rw [show (n : Int) = 7 by omega]; exact h)
  have CN1 := Lib.hid (fun W (hW : Below w.heap.size w W) => pnumber_any (some ⟨b, off, none⟩) n c zs 1 p W hp (HRG.out W hW) hx (by omega))
  have CN3 := Lib.hid (fun W (hW : Below w.heap.size w W) => pnumber_any (some ⟨b, off, none⟩) n c zs 3 q W hq (HRG.out W hW) hx (by omega))
  have hn0 : (0 : Int) < (n : Int) := by omega
  have hn1 : (1 : Int) < (n : Int) := by omega
  have hl2 : ¬ (n : Int) < 2 := by omega
  have h2c : (2 : Int) ≤ (n : Int) := by omega
  have h2d : ¬ c = 2 := by omega
  have ea : bits .andNot .u8 22 128 = 22 := by rw [andNot128 _ (by omega) (by omega)]; omega
  have wp : IntKind.u16.wrap p = p := IntWalk.u16_in _ (by omega)
  have wq : IntKind.u16.wrap q = q := IntWalk.u16_in _ (by omega)
  have eb : bits .and .u8 22 128 = 0 := by rw [and128 _ (by omega) (by omega)]; omega
  obtain ⟨lot, hit⟩ := gotW_bounds hx n 5
  rw [ht] at lot hit
  have wt : IntKind.u16.wrap t = t := IntWalk.u16_in _ (by omega)
  have CN5 := Lib.hid (fun W (hW : Below w.heap.size w W) => pnumber_any (some ⟨b, off, none⟩) n c zs 5 t W ht (HRG.out W hW) hx (by omega))
  clear ht
  have HNN := Lib.hid hn7
  clear hn7
  have HP := Lib.hid hp
  have HQ := Lib.hid hq
  have H0 := Lib.hid h0
  clear hr hx hcell hkw hkw1 hp hq h0
  go_enter Try.func26, Try.ntmps26
  go_upto_region 8 with (first
    | (go_at_call 51
       (with_reducible refine (HSZ.out _ ?_).mono ?_)
       · exact (Below.refl _ _).alloc (Nat.le_refl _) _
       rintro e w' ⟨rfl, rfl⟩)
    | (go_at_call 52
       (with_reducible refine (CN1.out _ ?_).mono ?_)
       · first | exact HKW.out | exact below_drewN HKW.out _
       rintro e w' ⟨rfl, d1, rfl⟩)
    | (go_at_call 52
       (with_reducible refine (CN3.out _ ?_).mono ?_)
       · first | exact HKW.out | exact below_drewN HKW.out _
       rintro e w' ⟨rfl, d3, rfl⟩))
  obtain ⟨w3, hw3, G4, G2, GB⟩ := named HG4 HG2 HKW (d1 + d3)
  have hz3 : w.heap.size + 1 < w3.heap.size := G4.out.lt
  obtain ⟨hs0, hs1, hs2, hs3, hs4, hs5, hs6, hs7, hs8, hs9, hs10, hs11, hs12, hs13⟩ := cells14 G4.out
  obtain ⟨hp0, hp1, hp2, hp3, hp4, hp5, hp6, hp7, hp8, hp9, hp10, hp11, hp12, hp13⟩ := cells14 G2.out
  obtain ⟨hf0, hf1, hf2, hf3, hf4, hf5, hf6, hf7, hf8, hf9, hf10, hf11, hf12, hf13⟩ := frozen14 G4.out
  obtain ⟨hg0, hg1, hg2, hg3, hg4, hg5, hg6, hg7, hg8, hg9, hg10, hg11, hg12, hg13⟩ := frozen14 G2.out
  rw [hw3]
  clear hw3 hc0 hc0b HSZ CN1 CN3
  go_wp2_with (first
    | (go_at_call 52; (with_reducible refine (CN5.out _ ?_).mono ?_); (exact GB.out); rintro e w' ⟨rfl, d5, rfl⟩))
  obtain ⟨X, hX⟩ : ∃ X, ((((w3.drewN d5).setCell ⟨w.heap.size + 1, 4, none⟩ (.int .i64 p)).setCell ⟨w.heap.size + 1, 7, none⟩ (.int .u16 q)).setCell ⟨w.heap.size + 1, 8, none⟩ (.int .u16 t)) = X := ⟨_, rfl⟩
  have hx0 := (whole_far (whole_far (whole_far (G2.out.drewN d5) (show w.heap.size ≠ w.heap.size + 1 by omega) 4 (.int .i64 p)) (show w.heap.size ≠ w.heap.size + 1 by omega) 7 (.int .u16 q)) (show w.heap.size ≠ w.heap.size + 1 by omega) 8 (.int .u16 t))
  have hxb := ((((below_drewN GB.out d5).setCell (p := ⟨w.heap.size + 1, 4, none⟩) (Nat.le_succ _) (.int .i64 p)).setCell (p := ⟨w.heap.size + 1, 7, none⟩) (Nat.le_succ _) (.int .u16 q)).setCell (p := ⟨w.heap.size + 1, 8, none⟩) (Nat.le_succ _) (.int .u16 t))
  rw [hX] at hx0 hxb
  rw [hX]
  exact end14 Try.results26 hx0 rfl hxb (Nat.le_refl _) rfl rfl fun w9 hbb hk => ⟨rfl, hbb⟩

set_option maxRecDepth 100000 in
set_option maxHeartbeats 4000000 in
theorem pfl_15 (b off n c : Nat) (zs : List Int) (m p q : Int) (w : World) (hr : Row .u8 w w.heap.size (some ⟨b, off, none⟩) n zs) (hx : Bytes8 zs) (hn : n ≤ 1000) (h0 : zs.getD 0 0 = 15) (hc : n ≤ c) (hc2 : c ≠ 2) (hp : gotW zs n 1 = p) (hq : gotW zs n 3 = q) (hn5 : n = 5) :
    Calls Try.prog 26 #[.slice (some ⟨b, off, none⟩) n c, .int .i64 m] w fun e w' => e = .returned (.tuple #[.agg #[.int .i64 15, .int .i64 0, .slice none 0 0, .slice none 0 0, .int .i64 p, .int .i64 q, .int .u16 0, .int .u16 0, .int .u16 0, .int .i64 0, .int .i64 0, .bool false, .int .i64 0, .slice none 0 0], .bool true]) ∧ Below w.heap.size w w' := by
  have h2n : 2 ≤ n := by omega
  obtain ⟨lop, hip⟩ := gotW_bounds hx n 1
  rw [hp] at lop hip
  obtain ⟨loq, hiq⟩ := gotW_bounds hx n 3
  rw [hq] at loq hiq
  obtain ⟨b', off', e1, hb, hcell⟩ := hr.2 (by omega)
  injection e1 with e1
  injection e1 with e1 e2
  subst e1 e2
  obtain ⟨hkw1, hkw, hg4, hg2⟩ := box2 w 28 [.int .i64 0, .int .i64 0, .slice none 0 0, .slice none 0 0, .int .i64 0, .int .i64 0, .int .u16 0, .int .u16 0, .int .u16 0, .int .i64 0, .int .i64 0, .bool false, .int .i64 0, .slice none 0 0] [.int .i64 15, .int .i64 0, .slice none 0 0, .slice none 0 0, .int .i64 0, .int .i64 0, .int .u16 0, .int .u16 0, .int .u16 0, .int .i64 0, .int .i64 0, .bool false, .int .i64 0, .slice none 0 0]
  have HCE := Lib.hid (fun X (hX : Below w.heap.size w X) j (hj : j < n) => (hX.cell (p := ⟨b, off + j, none⟩) hb).trans (hcell j hj))
  have hc0 := HCE.out _ hkw1 0 (by omega)
  rw [Nat.add_zero, h0] at hc0
  have hc0b := HCE.out _ hkw 0 (by omega)
  rw [Nat.add_zero, h0] at hc0b
  have HRG := Lib.hid (fun X (hX : Below w.heap.size w X) => (hr.below hX).more hX.size)
  have HTL := Lib.hid (fun X (hX : Below w.heap.size w X) => (((hr.below hX).more hX.size : Row .u8 X X.heap.size (some ⟨b, off, none⟩) n zs)).tail (l := 2) (q := n - 2) (by omega))
  have HX := Lib.hid hx
  have HKW := Lib.hid hkw
  have HG4 := Lib.hid hg4
  have HG2 := Lib.hid hg2
  clear hg4 hg2
  have HSZ := Lib.hid (fun W (hW : Below w.heap.size w W) => show Calls Try.prog 51 #[.slice (some ⟨b, off, none⟩) n c] W (fun e w1 => e = .returned (.int .i64 (n : Int)) ∧ W = w1) from by have h := psz_pair (some ⟨b, off, none⟩) n c zs W 15 (HRG.out W hW) hn (by omega) h0 (by omega); rw [show (n : Int) = 5 by omega]; exact h)
  have CN1 := Lib.hid (fun W (hW : Below w.heap.size w W) => pnumber_any (some ⟨b, off, none⟩) n c zs 1 p W hp (HRG.out W hW) hx (by omega))
  have CN3 := Lib.hid (fun W (hW : Below w.heap.size w W) => pnumber_any (some ⟨b, off, none⟩) n c zs 3 q W hq (HRG.out W hW) hx (by omega))
  have hn0 : (0 : Int) < (n : Int) := by omega
  have hn1 : (1 : Int) < (n : Int) := by omega
  have hl2 : ¬ (n : Int) < 2 := by omega
  have h2c : (2 : Int) ≤ (n : Int) := by omega
  have h2d : ¬ c = 2 := by omega
  have ea : bits .andNot .u8 15 128 = 15 := by rw [andNot128 _ (by omega) (by omega)]; omega
  have wp : IntKind.u16.wrap p = p := IntWalk.u16_in _ (by omega)
  have wq : IntKind.u16.wrap q = q := IntWalk.u16_in _ (by omega)
  have eb : bits .and .u8 15 128 = 0 := by rw [and128 _ (by omega) (by omega)]; omega
  have HNN := Lib.hid hn5
  clear hn5
  have HP := Lib.hid hp
  have HQ := Lib.hid hq
  have H0 := Lib.hid h0
  clear hr hx hcell hkw hkw1 hp hq h0
  go_enter Try.func26, Try.ntmps26
  go_upto_region 8 with (first
    | (go_at_call 51
       (with_reducible refine (HSZ.out _ ?_).mono ?_)
       · exact (Below.refl _ _).alloc (Nat.le_refl _) _
       rintro e w' ⟨rfl, rfl⟩)
    | (go_at_call 52
       (with_reducible refine (CN1.out _ ?_).mono ?_)
       · first | exact HKW.out | exact below_drewN HKW.out _
       rintro e w' ⟨rfl, d1, rfl⟩)
    | (go_at_call 52
       (with_reducible refine (CN3.out _ ?_).mono ?_)
       · first | exact HKW.out | exact below_drewN HKW.out _
       rintro e w' ⟨rfl, d3, rfl⟩))
  obtain ⟨w3, hw3, G4, G2, GB⟩ := named HG4 HG2 HKW (d1 + d3)
  have hz3 : w.heap.size + 1 < w3.heap.size := G4.out.lt
  obtain ⟨hs0, hs1, hs2, hs3, hs4, hs5, hs6, hs7, hs8, hs9, hs10, hs11, hs12, hs13⟩ := cells14 G4.out
  obtain ⟨hp0, hp1, hp2, hp3, hp4, hp5, hp6, hp7, hp8, hp9, hp10, hp11, hp12, hp13⟩ := cells14 G2.out
  obtain ⟨hf0, hf1, hf2, hf3, hf4, hf5, hf6, hf7, hf8, hf9, hf10, hf11, hf12, hf13⟩ := frozen14 G4.out
  obtain ⟨hg0, hg1, hg2, hg3, hg4, hg5, hg6, hg7, hg8, hg9, hg10, hg11, hg12, hg13⟩ := frozen14 G2.out
  rw [hw3]
  clear hw3 hc0 hc0b HSZ CN1 CN3
  go_wp2_with fail
  obtain ⟨X, hX⟩ : ∃ X, ((w3.setCell ⟨w.heap.size + 1, 4, none⟩ (.int .i64 p)).setCell ⟨w.heap.size + 1, 5, none⟩ (.int .i64 q)) = X := ⟨_, rfl⟩
  have hx0 := (whole_far (whole_far G2.out (show w.heap.size ≠ w.heap.size + 1 by omega) 4 (.int .i64 p)) (show w.heap.size ≠ w.heap.size + 1 by omega) 5 (.int .i64 q))
  have hxb := ((GB.out.setCell (p := ⟨w.heap.size + 1, 4, none⟩) (Nat.le_succ _) (.int .i64 p)).setCell (p := ⟨w.heap.size + 1, 5, none⟩) (Nat.le_succ _) (.int .i64 q))
  rw [hX] at hx0 hxb
  rw [hX]
  exact end14 Try.results26 hx0 rfl hxb (Nat.le_refl _) rfl rfl fun w9 hbb hk => ⟨rfl, hbb⟩

set_option maxRecDepth 100000 in
set_option maxHeartbeats 4000000 in
theorem pfl_16 (b off n c : Nat) (zs : List Int) (m p q : Int) (w : World) (hr : Row .u8 w w.heap.size (some ⟨b, off, none⟩) n zs) (hx : Bytes8 zs) (hn : n ≤ 1000) (h0 : zs.getD 0 0 = 16) (hc : n ≤ c) (hc2 : c ≠ 2) (hp : gotW zs n 1 = p) (hq : gotW zs n 3 = q) (hn5 : n = 5) :
    Calls Try.prog 26 #[.slice (some ⟨b, off, none⟩) n c, .int .i64 m] w fun e w' => e = .returned (.tuple #[.agg #[.int .i64 16, .int .i64 0, .slice none 0 0, .slice none 0 0, .int .i64 p, .int .i64 q, .int .u16 0, .int .u16 0, .int .u16 0, .int .i64 0, .int .i64 0, .bool false, .int .i64 0, .slice none 0 0], .bool true]) ∧ Below w.heap.size w w' := by
  have h2n : 2 ≤ n := by omega
  obtain ⟨lop, hip⟩ := gotW_bounds hx n 1
  rw [hp] at lop hip
  obtain ⟨loq, hiq⟩ := gotW_bounds hx n 3
  rw [hq] at loq hiq
  obtain ⟨b', off', e1, hb, hcell⟩ := hr.2 (by omega)
  injection e1 with e1
  injection e1 with e1 e2
  subst e1 e2
  obtain ⟨hkw1, hkw, hg4, hg2⟩ := box2 w 28 [.int .i64 0, .int .i64 0, .slice none 0 0, .slice none 0 0, .int .i64 0, .int .i64 0, .int .u16 0, .int .u16 0, .int .u16 0, .int .i64 0, .int .i64 0, .bool false, .int .i64 0, .slice none 0 0] [.int .i64 16, .int .i64 0, .slice none 0 0, .slice none 0 0, .int .i64 0, .int .i64 0, .int .u16 0, .int .u16 0, .int .u16 0, .int .i64 0, .int .i64 0, .bool false, .int .i64 0, .slice none 0 0]
  have HCE := Lib.hid (fun X (hX : Below w.heap.size w X) j (hj : j < n) => (hX.cell (p := ⟨b, off + j, none⟩) hb).trans (hcell j hj))
  have hc0 := HCE.out _ hkw1 0 (by omega)
  rw [Nat.add_zero, h0] at hc0
  have hc0b := HCE.out _ hkw 0 (by omega)
  rw [Nat.add_zero, h0] at hc0b
  have HRG := Lib.hid (fun X (hX : Below w.heap.size w X) => (hr.below hX).more hX.size)
  have HTL := Lib.hid (fun X (hX : Below w.heap.size w X) => (((hr.below hX).more hX.size : Row .u8 X X.heap.size (some ⟨b, off, none⟩) n zs)).tail (l := 2) (q := n - 2) (by omega))
  have HX := Lib.hid hx
  have HKW := Lib.hid hkw
  have HG4 := Lib.hid hg4
  have HG2 := Lib.hid hg2
  clear hg4 hg2
  have HSZ := Lib.hid (fun W (hW : Below w.heap.size w W) => show Calls Try.prog 51 #[.slice (some ⟨b, off, none⟩) n c] W (fun e w1 => e = .returned (.int .i64 (n : Int)) ∧ W = w1) from by have h := psz_pair (some ⟨b, off, none⟩) n c zs W 16 (HRG.out W hW) hn (by omega) h0 (by omega); rw [show (n : Int) = 5 by omega]; exact h)
  have CN1 := Lib.hid (fun W (hW : Below w.heap.size w W) => pnumber_any (some ⟨b, off, none⟩) n c zs 1 p W hp (HRG.out W hW) hx (by omega))
  have CN3 := Lib.hid (fun W (hW : Below w.heap.size w W) => pnumber_any (some ⟨b, off, none⟩) n c zs 3 q W hq (HRG.out W hW) hx (by omega))
  have hn0 : (0 : Int) < (n : Int) := by omega
  have hn1 : (1 : Int) < (n : Int) := by omega
  have hl2 : ¬ (n : Int) < 2 := by omega
  have h2c : (2 : Int) ≤ (n : Int) := by omega
  have h2d : ¬ c = 2 := by omega
  have ea : bits .andNot .u8 16 128 = 16 := by rw [andNot128 _ (by omega) (by omega)]; omega
  have wp : IntKind.u16.wrap p = p := IntWalk.u16_in _ (by omega)
  have wq : IntKind.u16.wrap q = q := IntWalk.u16_in _ (by omega)
  have eb : bits .and .u8 16 128 = 0 := by rw [and128 _ (by omega) (by omega)]; omega
  have HNN := Lib.hid hn5
  clear hn5
  have HP := Lib.hid hp
  have HQ := Lib.hid hq
  have H0 := Lib.hid h0
  clear hr hx hcell hkw hkw1 hp hq h0
  go_enter Try.func26, Try.ntmps26
  go_upto_region 8 with (first
    | (go_at_call 51
       (with_reducible refine (HSZ.out _ ?_).mono ?_)
       · exact (Below.refl _ _).alloc (Nat.le_refl _) _
       rintro e w' ⟨rfl, rfl⟩)
    | (go_at_call 52
       (with_reducible refine (CN1.out _ ?_).mono ?_)
       · first | exact HKW.out | exact below_drewN HKW.out _
       rintro e w' ⟨rfl, d1, rfl⟩)
    | (go_at_call 52
       (with_reducible refine (CN3.out _ ?_).mono ?_)
       · first | exact HKW.out | exact below_drewN HKW.out _
       rintro e w' ⟨rfl, d3, rfl⟩))
  obtain ⟨w3, hw3, G4, G2, GB⟩ := named HG4 HG2 HKW (d1 + d3)
  have hz3 : w.heap.size + 1 < w3.heap.size := G4.out.lt
  obtain ⟨hs0, hs1, hs2, hs3, hs4, hs5, hs6, hs7, hs8, hs9, hs10, hs11, hs12, hs13⟩ := cells14 G4.out
  obtain ⟨hp0, hp1, hp2, hp3, hp4, hp5, hp6, hp7, hp8, hp9, hp10, hp11, hp12, hp13⟩ := cells14 G2.out
  obtain ⟨hf0, hf1, hf2, hf3, hf4, hf5, hf6, hf7, hf8, hf9, hf10, hf11, hf12, hf13⟩ := frozen14 G4.out
  obtain ⟨hg0, hg1, hg2, hg3, hg4, hg5, hg6, hg7, hg8, hg9, hg10, hg11, hg12, hg13⟩ := frozen14 G2.out
  rw [hw3]
  clear hw3 hc0 hc0b HSZ CN1 CN3
  go_wp2_with fail
  obtain ⟨X, hX⟩ : ∃ X, ((w3.setCell ⟨w.heap.size + 1, 4, none⟩ (.int .i64 p)).setCell ⟨w.heap.size + 1, 5, none⟩ (.int .i64 q)) = X := ⟨_, rfl⟩
  have hx0 := (whole_far (whole_far G2.out (show w.heap.size ≠ w.heap.size + 1 by omega) 4 (.int .i64 p)) (show w.heap.size ≠ w.heap.size + 1 by omega) 5 (.int .i64 q))
  have hxb := ((GB.out.setCell (p := ⟨w.heap.size + 1, 4, none⟩) (Nat.le_succ _) (.int .i64 p)).setCell (p := ⟨w.heap.size + 1, 5, none⟩) (Nat.le_succ _) (.int .i64 q))
  rw [hX] at hx0 hxb
  rw [hX]
  exact end14 Try.results26 hx0 rfl hxb (Nat.le_refl _) rfl rfl fun w9 hbb hk => ⟨rfl, hbb⟩

set_option maxRecDepth 100000 in
set_option maxHeartbeats 4000000 in
theorem pfl_6 (b off n c : Nat) (zs : List Int) (m p q : Int) (w : World) (hr : Row .u8 w w.heap.size (some ⟨b, off, none⟩) n zs) (hx : Bytes8 zs) (hn : n ≤ 1000) (h0 : zs.getD 0 0 = 6) (hc : n ≤ c) (hc2 : c ≠ 2) (hp : gotW zs n 1 = p) (hq : gotW zs n 3 = q) (hn5 : n = 5) :
    Calls Try.prog 26 #[.slice (some ⟨b, off, none⟩) n c, .int .i64 m] w fun e w' => e = .returned (.tuple #[.agg #[.int .i64 6, .int .i64 0, .slice none 0 0, .slice none 0 0, .int .i64 p, .int .i64 0, .int .u16 q, .int .u16 0, .int .u16 0, .int .i64 0, .int .i64 0, .bool false, .int .i64 0, .slice none 0 0], .bool true]) ∧ Below w.heap.size w w' := by
  have h2n : 2 ≤ n := by omega
  obtain ⟨lop, hip⟩ := gotW_bounds hx n 1
  rw [hp] at lop hip
  obtain ⟨loq, hiq⟩ := gotW_bounds hx n 3
  rw [hq] at loq hiq
  obtain ⟨b', off', e1, hb, hcell⟩ := hr.2 (by omega)
  injection e1 with e1
  injection e1 with e1 e2
  subst e1 e2
  obtain ⟨hkw1, hkw, hg4, hg2⟩ := box2 w 28 [.int .i64 0, .int .i64 0, .slice none 0 0, .slice none 0 0, .int .i64 0, .int .i64 0, .int .u16 0, .int .u16 0, .int .u16 0, .int .i64 0, .int .i64 0, .bool false, .int .i64 0, .slice none 0 0] [.int .i64 6, .int .i64 0, .slice none 0 0, .slice none 0 0, .int .i64 0, .int .i64 0, .int .u16 0, .int .u16 0, .int .u16 0, .int .i64 0, .int .i64 0, .bool false, .int .i64 0, .slice none 0 0]
  have HCE := Lib.hid (fun X (hX : Below w.heap.size w X) j (hj : j < n) => (hX.cell (p := ⟨b, off + j, none⟩) hb).trans (hcell j hj))
  have hc0 := HCE.out _ hkw1 0 (by omega)
  rw [Nat.add_zero, h0] at hc0
  have hc0b := HCE.out _ hkw 0 (by omega)
  rw [Nat.add_zero, h0] at hc0b
  have HRG := Lib.hid (fun X (hX : Below w.heap.size w X) => (hr.below hX).more hX.size)
  have HTL := Lib.hid (fun X (hX : Below w.heap.size w X) => (((hr.below hX).more hX.size : Row .u8 X X.heap.size (some ⟨b, off, none⟩) n zs)).tail (l := 2) (q := n - 2) (by omega))
  have HX := Lib.hid hx
  have HKW := Lib.hid hkw
  have HG4 := Lib.hid hg4
  have HG2 := Lib.hid hg2
  clear hg4 hg2
  have HSZ := Lib.hid (fun W (hW : Below w.heap.size w W) => show Calls Try.prog 51 #[.slice (some ⟨b, off, none⟩) n c] W (fun e w1 => e = .returned (.int .i64 (n : Int)) ∧ W = w1) from by have h := psz_pair (some ⟨b, off, none⟩) n c zs W 6 (HRG.out W hW) hn (by omega) h0 (by omega); rw [show (n : Int) = 5 by omega]; exact h)
  have CN1 := Lib.hid (fun W (hW : Below w.heap.size w W) => pnumber_any (some ⟨b, off, none⟩) n c zs 1 p W hp (HRG.out W hW) hx (by omega))
  have CN3 := Lib.hid (fun W (hW : Below w.heap.size w W) => pnumber_any (some ⟨b, off, none⟩) n c zs 3 q W hq (HRG.out W hW) hx (by omega))
  have hn0 : (0 : Int) < (n : Int) := by omega
  have hn1 : (1 : Int) < (n : Int) := by omega
  have hl2 : ¬ (n : Int) < 2 := by omega
  have h2c : (2 : Int) ≤ (n : Int) := by omega
  have h2d : ¬ c = 2 := by omega
  have ea : bits .andNot .u8 6 128 = 6 := by rw [andNot128 _ (by omega) (by omega)]; omega
  have wp : IntKind.u16.wrap p = p := IntWalk.u16_in _ (by omega)
  have wq : IntKind.u16.wrap q = q := IntWalk.u16_in _ (by omega)
  have eb : bits .and .u8 6 128 = 0 := by rw [and128 _ (by omega) (by omega)]; omega
  have HNN := Lib.hid hn5
  clear hn5
  have HP := Lib.hid hp
  have HQ := Lib.hid hq
  have H0 := Lib.hid h0
  clear hr hx hcell hkw hkw1 hp hq h0
  go_enter Try.func26, Try.ntmps26
  go_upto_region 8 with (first
    | (go_at_call 51
       (with_reducible refine (HSZ.out _ ?_).mono ?_)
       · exact (Below.refl _ _).alloc (Nat.le_refl _) _
       rintro e w' ⟨rfl, rfl⟩)
    | (go_at_call 52
       (with_reducible refine (CN1.out _ ?_).mono ?_)
       · first | exact HKW.out | exact below_drewN HKW.out _
       rintro e w' ⟨rfl, d1, rfl⟩)
    | (go_at_call 52
       (with_reducible refine (CN3.out _ ?_).mono ?_)
       · first | exact HKW.out | exact below_drewN HKW.out _
       rintro e w' ⟨rfl, d3, rfl⟩))
  obtain ⟨w3, hw3, G4, G2, GB⟩ := named HG4 HG2 HKW (d1 + d3)
  have hz3 : w.heap.size + 1 < w3.heap.size := G4.out.lt
  obtain ⟨hs0, hs1, hs2, hs3, hs4, hs5, hs6, hs7, hs8, hs9, hs10, hs11, hs12, hs13⟩ := cells14 G4.out
  obtain ⟨hp0, hp1, hp2, hp3, hp4, hp5, hp6, hp7, hp8, hp9, hp10, hp11, hp12, hp13⟩ := cells14 G2.out
  obtain ⟨hf0, hf1, hf2, hf3, hf4, hf5, hf6, hf7, hf8, hf9, hf10, hf11, hf12, hf13⟩ := frozen14 G4.out
  obtain ⟨hg0, hg1, hg2, hg3, hg4, hg5, hg6, hg7, hg8, hg9, hg10, hg11, hg12, hg13⟩ := frozen14 G2.out
  rw [hw3]
  clear hw3 hc0 hc0b HSZ CN1 CN3
  go_wp2_with fail
  obtain ⟨X, hX⟩ : ∃ X, ((w3.setCell ⟨w.heap.size + 1, 4, none⟩ (.int .i64 p)).setCell ⟨w.heap.size + 1, 6, none⟩ (.int .u16 q)) = X := ⟨_, rfl⟩
  have hx0 := (whole_far (whole_far G2.out (show w.heap.size ≠ w.heap.size + 1 by omega) 4 (.int .i64 p)) (show w.heap.size ≠ w.heap.size + 1 by omega) 6 (.int .u16 q))
  have hxb := ((GB.out.setCell (p := ⟨w.heap.size + 1, 4, none⟩) (Nat.le_succ _) (.int .i64 p)).setCell (p := ⟨w.heap.size + 1, 6, none⟩) (Nat.le_succ _) (.int .u16 q))
  rw [hX] at hx0 hxb
  rw [hX]
  exact end14 Try.results26 hx0 rfl hxb (Nat.le_refl _) rfl rfl fun w9 hbb hk => ⟨rfl, hbb⟩

set_option maxRecDepth 100000 in
set_option maxHeartbeats 4000000 in
theorem pfl_5_0 (b off n c : Nat) (zs : List Int) (m p q : Int) (w : World) (hr : Row .u8 w w.heap.size (some ⟨b, off, none⟩) n zs) (hx : Bytes8 zs) (hn : n ≤ 1000) (h0 : zs.getD 0 0 = 5) (hc : n ≤ c) (hc2 : c ≠ 2) (hp : gotW zs n 1 = p) (hq : gotW zs n 3 = q) (hn5 : n = 5) (hv : q = 0) :
    Calls Try.prog 26 #[.slice (some ⟨b, off, none⟩) n c, .int .i64 m] w fun e w' => e = .returned (.tuple #[.agg #[.int .i64 5, .int .i64 0, .slice none 0 0, .slice none 0 0, .int .i64 p, .int .i64 0, .int .u16 0, .int .u16 0, .int .u16 0, .int .i64 0, .int .i64 0, .bool false, .int .i64 0, .slice none 0 0], .bool true]) ∧ Below w.heap.size w w' := by
  have h2n : 2 ≤ n := by omega
  obtain ⟨lop, hip⟩ := gotW_bounds hx n 1
  rw [hp] at lop hip
  obtain ⟨loq, hiq⟩ := gotW_bounds hx n 3
  rw [hq] at loq hiq
  obtain ⟨b', off', e1, hb, hcell⟩ := hr.2 (by omega)
  injection e1 with e1
  injection e1 with e1 e2
  subst e1 e2
  obtain ⟨hkw1, hkw, hg4, hg2⟩ := box2 w 28 [.int .i64 0, .int .i64 0, .slice none 0 0, .slice none 0 0, .int .i64 0, .int .i64 0, .int .u16 0, .int .u16 0, .int .u16 0, .int .i64 0, .int .i64 0, .bool false, .int .i64 0, .slice none 0 0] [.int .i64 5, .int .i64 0, .slice none 0 0, .slice none 0 0, .int .i64 0, .int .i64 0, .int .u16 0, .int .u16 0, .int .u16 0, .int .i64 0, .int .i64 0, .bool false, .int .i64 0, .slice none 0 0]
  have HCE := Lib.hid (fun X (hX : Below w.heap.size w X) j (hj : j < n) => (hX.cell (p := ⟨b, off + j, none⟩) hb).trans (hcell j hj))
  have hc0 := HCE.out _ hkw1 0 (by omega)
  rw [Nat.add_zero, h0] at hc0
  have hc0b := HCE.out _ hkw 0 (by omega)
  rw [Nat.add_zero, h0] at hc0b
  have HRG := Lib.hid (fun X (hX : Below w.heap.size w X) => (hr.below hX).more hX.size)
  have HTL := Lib.hid (fun X (hX : Below w.heap.size w X) => (((hr.below hX).more hX.size : Row .u8 X X.heap.size (some ⟨b, off, none⟩) n zs)).tail (l := 2) (q := n - 2) (by omega))
  have HX := Lib.hid hx
  have HKW := Lib.hid hkw
  have HG4 := Lib.hid hg4
  have HG2 := Lib.hid hg2
  clear hg4 hg2
  have HSZ := Lib.hid (fun W (hW : Below w.heap.size w W) => show Calls Try.prog 51 #[.slice (some ⟨b, off, none⟩) n c] W (fun e w1 => e = .returned (.int .i64 (n : Int)) ∧ W = w1) from by have h := psz_pair (some ⟨b, off, none⟩) n c zs W 5 (HRG.out W hW) hn (by omega) h0 (by omega); rw [show (n : Int) = 5 by omega]; exact h)
  have CN1 := Lib.hid (fun W (hW : Below w.heap.size w W) => pnumber_any (some ⟨b, off, none⟩) n c zs 1 p W hp (HRG.out W hW) hx (by omega))
  have CN3 := Lib.hid (fun W (hW : Below w.heap.size w W) => pnumber_any (some ⟨b, off, none⟩) n c zs 3 q W hq (HRG.out W hW) hx (by omega))
  have hn0 : (0 : Int) < (n : Int) := by omega
  have hn1 : (1 : Int) < (n : Int) := by omega
  have hl2 : ¬ (n : Int) < 2 := by omega
  have h2c : (2 : Int) ≤ (n : Int) := by omega
  have h2d : ¬ c = 2 := by omega
  have ea : bits .andNot .u8 5 128 = 5 := by rw [andNot128 _ (by omega) (by omega)]; omega
  have wp : IntKind.u16.wrap p = p := IntWalk.u16_in _ (by omega)
  have wq : IntKind.u16.wrap q = q := IntWalk.u16_in _ (by omega)
  have eb : bits .and .u8 5 128 = 0 := by rw [and128 _ (by omega) (by omega)]; omega
  subst hv
  have HNN := Lib.hid hn5
  clear hn5
  have HP := Lib.hid hp
  have HQ := Lib.hid hq
  have H0 := Lib.hid h0
  clear hr hx hcell hkw hkw1 hp hq h0
  go_enter Try.func26, Try.ntmps26
  go_upto_region 8 with (first
    | (go_at_call 51
       (with_reducible refine (HSZ.out _ ?_).mono ?_)
       · exact (Below.refl _ _).alloc (Nat.le_refl _) _
       rintro e w' ⟨rfl, rfl⟩)
    | (go_at_call 52
       (with_reducible refine (CN1.out _ ?_).mono ?_)
       · first | exact HKW.out | exact below_drewN HKW.out _
       rintro e w' ⟨rfl, d1, rfl⟩)
    | (go_at_call 52
       (with_reducible refine (CN3.out _ ?_).mono ?_)
       · first | exact HKW.out | exact below_drewN HKW.out _
       rintro e w' ⟨rfl, d3, rfl⟩))
  obtain ⟨w3, hw3, G4, G2, GB⟩ := named HG4 HG2 HKW (d1 + d3)
  have hz3 : w.heap.size + 1 < w3.heap.size := G4.out.lt
  obtain ⟨hs0, hs1, hs2, hs3, hs4, hs5, hs6, hs7, hs8, hs9, hs10, hs11, hs12, hs13⟩ := cells14 G4.out
  obtain ⟨hp0, hp1, hp2, hp3, hp4, hp5, hp6, hp7, hp8, hp9, hp10, hp11, hp12, hp13⟩ := cells14 G2.out
  obtain ⟨hf0, hf1, hf2, hf3, hf4, hf5, hf6, hf7, hf8, hf9, hf10, hf11, hf12, hf13⟩ := frozen14 G4.out
  obtain ⟨hg0, hg1, hg2, hg3, hg4, hg5, hg6, hg7, hg8, hg9, hg10, hg11, hg12, hg13⟩ := frozen14 G2.out
  rw [hw3]
  clear hw3 hc0 hc0b HSZ CN1 CN3
  go_wp2_with (first
    | (go_at_call 55; refine (coil_nought _).mono ?_; rintro e w' ⟨rfl, rfl⟩))
  obtain ⟨X, hX⟩ : ∃ X, (((w3.setCell ⟨w.heap.size + 1, 6, none⟩ (.int .u16 0)).setCell ⟨w.heap.size + 1, 4, none⟩ (.int .i64 p)).setCell ⟨w.heap.size + 1, 6, none⟩ (.int .u16 0)) = X := ⟨_, rfl⟩
  have hx0 := (whole_far (whole_far (whole_far G2.out (show w.heap.size ≠ w.heap.size + 1 by omega) 6 (.int .u16 0)) (show w.heap.size ≠ w.heap.size + 1 by omega) 4 (.int .i64 p)) (show w.heap.size ≠ w.heap.size + 1 by omega) 6 (.int .u16 0))
  have hxb := (((GB.out.setCell (p := ⟨w.heap.size + 1, 6, none⟩) (Nat.le_succ _) (.int .u16 0)).setCell (p := ⟨w.heap.size + 1, 4, none⟩) (Nat.le_succ _) (.int .i64 p)).setCell (p := ⟨w.heap.size + 1, 6, none⟩) (Nat.le_succ _) (.int .u16 0))
  rw [hX] at hx0 hxb
  rw [hX]
  exact end14 Try.results26 hx0 rfl hxb (Nat.le_refl _) rfl rfl fun w9 hbb hk => ⟨rfl, hbb⟩

set_option maxRecDepth 100000 in
set_option maxHeartbeats 4000000 in
theorem pfl_5_1 (b off n c : Nat) (zs : List Int) (m p q : Int) (w : World) (hr : Row .u8 w w.heap.size (some ⟨b, off, none⟩) n zs) (hx : Bytes8 zs) (hn : n ≤ 1000) (h0 : zs.getD 0 0 = 5) (hc : n ≤ c) (hc2 : c ≠ 2) (hp : gotW zs n 1 = p) (hq : gotW zs n 3 = q) (hn5 : n = 5) (hv : q = 65280) :
    Calls Try.prog 26 #[.slice (some ⟨b, off, none⟩) n c, .int .i64 m] w fun e w' => e = .returned (.tuple #[.agg #[.int .i64 5, .int .i64 0, .slice none 0 0, .slice none 0 0, .int .i64 p, .int .i64 0, .int .u16 1, .int .u16 0, .int .u16 0, .int .i64 0, .int .i64 0, .bool false, .int .i64 0, .slice none 0 0], .bool true]) ∧ Below w.heap.size w w' := by
  have h2n : 2 ≤ n := by omega
  obtain ⟨lop, hip⟩ := gotW_bounds hx n 1
  rw [hp] at lop hip
  obtain ⟨loq, hiq⟩ := gotW_bounds hx n 3
  rw [hq] at loq hiq
  obtain ⟨b', off', e1, hb, hcell⟩ := hr.2 (by omega)
  injection e1 with e1
  injection e1 with e1 e2
  subst e1 e2
  obtain ⟨hkw1, hkw, hg4, hg2⟩ := box2 w 28 [.int .i64 0, .int .i64 0, .slice none 0 0, .slice none 0 0, .int .i64 0, .int .i64 0, .int .u16 0, .int .u16 0, .int .u16 0, .int .i64 0, .int .i64 0, .bool false, .int .i64 0, .slice none 0 0] [.int .i64 5, .int .i64 0, .slice none 0 0, .slice none 0 0, .int .i64 0, .int .i64 0, .int .u16 0, .int .u16 0, .int .u16 0, .int .i64 0, .int .i64 0, .bool false, .int .i64 0, .slice none 0 0]
  have HCE := Lib.hid (fun X (hX : Below w.heap.size w X) j (hj : j < n) => (hX.cell (p := ⟨b, off + j, none⟩) hb).trans (hcell j hj))
  have hc0 := HCE.out _ hkw1 0 (by omega)
  rw [Nat.add_zero, h0] at hc0
  have hc0b := HCE.out _ hkw 0 (by omega)
  rw [Nat.add_zero, h0] at hc0b
  have HRG := Lib.hid (fun X (hX : Below w.heap.size w X) => (hr.below hX).more hX.size)
  have HTL := Lib.hid (fun X (hX : Below w.heap.size w X) => (((hr.below hX).more hX.size : Row .u8 X X.heap.size (some ⟨b, off, none⟩) n zs)).tail (l := 2) (q := n - 2) (by omega))
  have HX := Lib.hid hx
  have HKW := Lib.hid hkw
  have HG4 := Lib.hid hg4
  have HG2 := Lib.hid hg2
  clear hg4 hg2
  have HSZ := Lib.hid (fun W (hW : Below w.heap.size w W) => show Calls Try.prog 51 #[.slice (some ⟨b, off, none⟩) n c] W (fun e w1 => e = .returned (.int .i64 (n : Int)) ∧ W = w1) from by have h := psz_pair (some ⟨b, off, none⟩) n c zs W 5 (HRG.out W hW) hn (by omega) h0 (by omega); rw [show (n : Int) = 5 by omega]; exact h)
  have CN1 := Lib.hid (fun W (hW : Below w.heap.size w W) => pnumber_any (some ⟨b, off, none⟩) n c zs 1 p W hp (HRG.out W hW) hx (by omega))
  have CN3 := Lib.hid (fun W (hW : Below w.heap.size w W) => pnumber_any (some ⟨b, off, none⟩) n c zs 3 q W hq (HRG.out W hW) hx (by omega))
  have hn0 : (0 : Int) < (n : Int) := by omega
  have hn1 : (1 : Int) < (n : Int) := by omega
  have hl2 : ¬ (n : Int) < 2 := by omega
  have h2c : (2 : Int) ≤ (n : Int) := by omega
  have h2d : ¬ c = 2 := by omega
  have ea : bits .andNot .u8 5 128 = 5 := by rw [andNot128 _ (by omega) (by omega)]; omega
  have wp : IntKind.u16.wrap p = p := IntWalk.u16_in _ (by omega)
  have wq : IntKind.u16.wrap q = q := IntWalk.u16_in _ (by omega)
  have eb : bits .and .u8 5 128 = 0 := by rw [and128 _ (by omega) (by omega)]; omega
  subst hv
  have HNN := Lib.hid hn5
  clear hn5
  have HP := Lib.hid hp
  have HQ := Lib.hid hq
  have H0 := Lib.hid h0
  clear hr hx hcell hkw hkw1 hp hq h0
  go_enter Try.func26, Try.ntmps26
  go_upto_region 8 with (first
    | (go_at_call 51
       (with_reducible refine (HSZ.out _ ?_).mono ?_)
       · exact (Below.refl _ _).alloc (Nat.le_refl _) _
       rintro e w' ⟨rfl, rfl⟩)
    | (go_at_call 52
       (with_reducible refine (CN1.out _ ?_).mono ?_)
       · first | exact HKW.out | exact below_drewN HKW.out _
       rintro e w' ⟨rfl, d1, rfl⟩)
    | (go_at_call 52
       (with_reducible refine (CN3.out _ ?_).mono ?_)
       · first | exact HKW.out | exact below_drewN HKW.out _
       rintro e w' ⟨rfl, d3, rfl⟩))
  obtain ⟨w3, hw3, G4, G2, GB⟩ := named HG4 HG2 HKW (d1 + d3)
  have hz3 : w.heap.size + 1 < w3.heap.size := G4.out.lt
  obtain ⟨hs0, hs1, hs2, hs3, hs4, hs5, hs6, hs7, hs8, hs9, hs10, hs11, hs12, hs13⟩ := cells14 G4.out
  obtain ⟨hp0, hp1, hp2, hp3, hp4, hp5, hp6, hp7, hp8, hp9, hp10, hp11, hp12, hp13⟩ := cells14 G2.out
  obtain ⟨hf0, hf1, hf2, hf3, hf4, hf5, hf6, hf7, hf8, hf9, hf10, hf11, hf12, hf13⟩ := frozen14 G4.out
  obtain ⟨hg0, hg1, hg2, hg3, hg4, hg5, hg6, hg7, hg8, hg9, hg10, hg11, hg12, hg13⟩ := frozen14 G2.out
  rw [hw3]
  clear hw3 hc0 hc0b HSZ CN1 CN3
  go_wp2_with (first
    | (go_at_call 55; refine (coil_one _).mono ?_; rintro e w' ⟨rfl, rfl⟩))
  obtain ⟨X, hX⟩ : ∃ X, (((w3.setCell ⟨w.heap.size + 1, 6, none⟩ (.int .u16 1)).setCell ⟨w.heap.size + 1, 4, none⟩ (.int .i64 p)).setCell ⟨w.heap.size + 1, 6, none⟩ (.int .u16 1)) = X := ⟨_, rfl⟩
  have hx0 := (whole_far (whole_far (whole_far G2.out (show w.heap.size ≠ w.heap.size + 1 by omega) 6 (.int .u16 1)) (show w.heap.size ≠ w.heap.size + 1 by omega) 4 (.int .i64 p)) (show w.heap.size ≠ w.heap.size + 1 by omega) 6 (.int .u16 1))
  have hxb := (((GB.out.setCell (p := ⟨w.heap.size + 1, 6, none⟩) (Nat.le_succ _) (.int .u16 1)).setCell (p := ⟨w.heap.size + 1, 4, none⟩) (Nat.le_succ _) (.int .i64 p)).setCell (p := ⟨w.heap.size + 1, 6, none⟩) (Nat.le_succ _) (.int .u16 1))
  rw [hX] at hx0 hxb
  rw [hX]
  exact end14 Try.results26 hx0 rfl hxb (Nat.le_refl _) rfl rfl fun w9 hbb hk => ⟨rfl, hbb⟩

set_option maxRecDepth 100000 in
set_option maxHeartbeats 4000000 in
theorem pfl_5_no (b off n c : Nat) (zs : List Int) (m p q : Int) (w : World) (hr : Row .u8 w w.heap.size (some ⟨b, off, none⟩) n zs) (hx : Bytes8 zs) (hn : n ≤ 1000) (h0 : zs.getD 0 0 = 5) (hc : n ≤ c) (hc2 : c ≠ 2) (hp : gotW zs n 1 = p) (hq : gotW zs n 3 = q) (hn5 : n = 5) (hv0 : ¬ q = 0) (hv1 : ¬ q = 65280) :
    Calls Try.prog 26 #[.slice (some ⟨b, off, none⟩) n c, .int .i64 m] w fun e w' => e = .returned (.tuple #[.agg #[.int .i64 5, .int .i64 0, .slice none 0 0, .slice none 0 0, .int .i64 p, .int .i64 0, .int .u16 0, .int .u16 0, .int .u16 0, .int .i64 0, .int .i64 0, .bool false, .int .i64 0, .slice none 0 0], .bool false]) ∧ Below w.heap.size w w' := by
  have h2n : 2 ≤ n := by omega
  obtain ⟨lop, hip⟩ := gotW_bounds hx n 1
  rw [hp] at lop hip
  obtain ⟨loq, hiq⟩ := gotW_bounds hx n 3
  rw [hq] at loq hiq
  obtain ⟨b', off', e1, hb, hcell⟩ := hr.2 (by omega)
  injection e1 with e1
  injection e1 with e1 e2
  subst e1 e2
  obtain ⟨hkw1, hkw, hg4, hg2⟩ := box2 w 28 [.int .i64 0, .int .i64 0, .slice none 0 0, .slice none 0 0, .int .i64 0, .int .i64 0, .int .u16 0, .int .u16 0, .int .u16 0, .int .i64 0, .int .i64 0, .bool false, .int .i64 0, .slice none 0 0] [.int .i64 5, .int .i64 0, .slice none 0 0, .slice none 0 0, .int .i64 0, .int .i64 0, .int .u16 0, .int .u16 0, .int .u16 0, .int .i64 0, .int .i64 0, .bool false, .int .i64 0, .slice none 0 0]
  have HCE := Lib.hid (fun X (hX : Below w.heap.size w X) j (hj : j < n) => (hX.cell (p := ⟨b, off + j, none⟩) hb).trans (hcell j hj))
  have hc0 := HCE.out _ hkw1 0 (by omega)
  rw [Nat.add_zero, h0] at hc0
  have hc0b := HCE.out _ hkw 0 (by omega)
  rw [Nat.add_zero, h0] at hc0b
  have HRG := Lib.hid (fun X (hX : Below w.heap.size w X) => (hr.below hX).more hX.size)
  have HTL := Lib.hid (fun X (hX : Below w.heap.size w X) => (((hr.below hX).more hX.size : Row .u8 X X.heap.size (some ⟨b, off, none⟩) n zs)).tail (l := 2) (q := n - 2) (by omega))
  have HX := Lib.hid hx
  have HKW := Lib.hid hkw
  have HG4 := Lib.hid hg4
  have HG2 := Lib.hid hg2
  clear hg4 hg2
  have HSZ := Lib.hid (fun W (hW : Below w.heap.size w W) => show Calls Try.prog 51 #[.slice (some ⟨b, off, none⟩) n c] W (fun e w1 => e = .returned (.int .i64 (n : Int)) ∧ W = w1) from by have h := psz_pair (some ⟨b, off, none⟩) n c zs W 5 (HRG.out W hW) hn (by omega) h0 (by omega); rw [show (n : Int) = 5 by omega]; exact h)
  have CN1 := Lib.hid (fun W (hW : Below w.heap.size w W) => pnumber_any (some ⟨b, off, none⟩) n c zs 1 p W hp (HRG.out W hW) hx (by omega))
  have CN3 := Lib.hid (fun W (hW : Below w.heap.size w W) => pnumber_any (some ⟨b, off, none⟩) n c zs 3 q W hq (HRG.out W hW) hx (by omega))
  have hn0 : (0 : Int) < (n : Int) := by omega
  have hn1 : (1 : Int) < (n : Int) := by omega
  have hl2 : ¬ (n : Int) < 2 := by omega
  have h2c : (2 : Int) ≤ (n : Int) := by omega
  have h2d : ¬ c = 2 := by omega
  have ea : bits .andNot .u8 5 128 = 5 := by rw [andNot128 _ (by omega) (by omega)]; omega
  have wp : IntKind.u16.wrap p = p := IntWalk.u16_in _ (by omega)
  have wq : IntKind.u16.wrap q = q := IntWalk.u16_in _ (by omega)
  have eb : bits .and .u8 5 128 = 0 := by rw [and128 _ (by omega) (by omega)]; omega
  have HNN := Lib.hid hn5
  clear hn5
  have HP := Lib.hid hp
  have HQ := Lib.hid hq
  have H0 := Lib.hid h0
  clear hr hx hcell hkw hkw1 hp hq h0
  go_enter Try.func26, Try.ntmps26
  go_upto_region 8 with (first
    | (go_at_call 51
       (with_reducible refine (HSZ.out _ ?_).mono ?_)
       · exact (Below.refl _ _).alloc (Nat.le_refl _) _
       rintro e w' ⟨rfl, rfl⟩)
    | (go_at_call 52
       (with_reducible refine (CN1.out _ ?_).mono ?_)
       · first | exact HKW.out | exact below_drewN HKW.out _
       rintro e w' ⟨rfl, d1, rfl⟩)
    | (go_at_call 52
       (with_reducible refine (CN3.out _ ?_).mono ?_)
       · first | exact HKW.out | exact below_drewN HKW.out _
       rintro e w' ⟨rfl, d3, rfl⟩))
  obtain ⟨w3, hw3, G4, G2, GB⟩ := named HG4 HG2 HKW (d1 + d3)
  have hz3 : w.heap.size + 1 < w3.heap.size := G4.out.lt
  obtain ⟨hs0, hs1, hs2, hs3, hs4, hs5, hs6, hs7, hs8, hs9, hs10, hs11, hs12, hs13⟩ := cells14 G4.out
  obtain ⟨hp0, hp1, hp2, hp3, hp4, hp5, hp6, hp7, hp8, hp9, hp10, hp11, hp12, hp13⟩ := cells14 G2.out
  obtain ⟨hf0, hf1, hf2, hf3, hf4, hf5, hf6, hf7, hf8, hf9, hf10, hf11, hf12, hf13⟩ := frozen14 G4.out
  obtain ⟨hg0, hg1, hg2, hg3, hg4, hg5, hg6, hg7, hg8, hg9, hg10, hg11, hg12, hg13⟩ := frozen14 G2.out
  rw [hw3]
  clear hw3 hc0 hc0b HSZ CN1 CN3
  go_wp2_with (first
    | (go_at_call 55; refine (coil_other q _ hv0 hv1).mono ?_; rintro e w' ⟨rfl, rfl⟩))
  obtain ⟨X, hX⟩ : ∃ X, (((w3.setCell ⟨w.heap.size + 1, 6, none⟩ (.int .u16 0)).setCell ⟨w.heap.size + 1, 4, none⟩ (.int .i64 p)).setCell ⟨w.heap.size + 1, 6, none⟩ (.int .u16 0)) = X := ⟨_, rfl⟩
  have hx0 := (whole_far (whole_far (whole_far G2.out (show w.heap.size ≠ w.heap.size + 1 by omega) 6 (.int .u16 0)) (show w.heap.size ≠ w.heap.size + 1 by omega) 4 (.int .i64 p)) (show w.heap.size ≠ w.heap.size + 1 by omega) 6 (.int .u16 0))
  have hxb := (((GB.out.setCell (p := ⟨w.heap.size + 1, 6, none⟩) (Nat.le_succ _) (.int .u16 0)).setCell (p := ⟨w.heap.size + 1, 4, none⟩) (Nat.le_succ _) (.int .i64 p)).setCell (p := ⟨w.heap.size + 1, 6, none⟩) (Nat.le_succ _) (.int .u16 0))
  rw [hX] at hx0 hxb
  rw [hX]
  exact end14 Try.results26 hx0 rfl hxb (Nat.le_refl _) rfl rfl fun w9 hbb hk => ⟨rfl, hbb⟩

set_option maxRecDepth 100000 in
set_option maxHeartbeats 4000000 in
theorem pfl_no (b off n c : Nat) (zs : List Int) (m p q : Int) (f : Int) (w : World) (hr : Row .u8 w w.heap.size (some ⟨b, off, none⟩) n zs) (hx : Bytes8 zs) (hn : n ≤ 1000) (h0 : zs.getD 0 0 = f) (hc : n ≤ c) (hc2 : c ≠ 2) (hp : gotW zs n 1 = p) (hq : gotW zs n 3 = q) (hn2 : n = 2) (hf : NoFn f) (hf0 : 0 ≤ f) (hf1 : f < 128) :
    Calls Try.prog 26 #[.slice (some ⟨b, off, none⟩) n c, .int .i64 m] w fun e w' => e = .returned (.tuple #[.agg #[.int .i64 f, .int .i64 0, .slice none 0 0, .slice none 0 0, .int .i64 0, .int .i64 0, .int .u16 0, .int .u16 0, .int .u16 0, .int .i64 0, .int .i64 0, .bool false, .int .i64 0, .slice none 0 0], .bool true]) ∧ Below w.heap.size w w' := by
  have h2n : 2 ≤ n := by omega
  obtain ⟨lop, hip⟩ := gotW_bounds hx n 1
  rw [hp] at lop hip
  obtain ⟨loq, hiq⟩ := gotW_bounds hx n 3
  rw [hq] at loq hiq
  obtain ⟨b', off', e1, hb, hcell⟩ := hr.2 (by omega)
  injection e1 with e1
  injection e1 with e1 e2
  subst e1 e2
  obtain ⟨hkw1, hkw, hg4, hg2⟩ := box2 w 28 [.int .i64 0, .int .i64 0, .slice none 0 0, .slice none 0 0, .int .i64 0, .int .i64 0, .int .u16 0, .int .u16 0, .int .u16 0, .int .i64 0, .int .i64 0, .bool false, .int .i64 0, .slice none 0 0] [.int .i64 f, .int .i64 0, .slice none 0 0, .slice none 0 0, .int .i64 0, .int .i64 0, .int .u16 0, .int .u16 0, .int .u16 0, .int .i64 0, .int .i64 0, .bool false, .int .i64 0, .slice none 0 0]
  have HCE := Lib.hid (fun X (hX : Below w.heap.size w X) j (hj : j < n) => (hX.cell (p := ⟨b, off + j, none⟩) hb).trans (hcell j hj))
  have hc0 := HCE.out _ hkw1 0 (by omega)
  rw [Nat.add_zero, h0] at hc0
  have hc0b := HCE.out _ hkw 0 (by omega)
  rw [Nat.add_zero, h0] at hc0b
  have HRG := Lib.hid (fun X (hX : Below w.heap.size w X) => (hr.below hX).more hX.size)
  have HTL := Lib.hid (fun X (hX : Below w.heap.size w X) => (((hr.below hX).more hX.size : Row .u8 X X.heap.size (some ⟨b, off, none⟩) n zs)).tail (l := 2) (q := n - 2) (by omega))
  have HX := Lib.hid hx
  have HKW := Lib.hid hkw
  have HG4 := Lib.hid hg4
  have HG2 := Lib.hid hg2
  clear hg4 hg2
  have HSZ := Lib.hid (fun W (hW : Below w.heap.size w W) => show Calls Try.prog 51 #[.slice (some ⟨b, off, none⟩) n c] W (fun e w1 => e = .returned (.int .i64 (n : Int)) ∧ W = w1) from by have h := psz_no (some ⟨b, off, none⟩) n c zs W f (HRG.out W hW) hx hn (by omega) h0 hf; rw [show (n : Int) = 2 by omega]; exact h)
  have CN1 := Lib.hid (fun W (hW : Below w.heap.size w W) => pnumber_any (some ⟨b, off, none⟩) n c zs 1 p W hp (HRG.out W hW) hx (by omega))
  have CN3 := Lib.hid (fun W (hW : Below w.heap.size w W) => pnumber_any (some ⟨b, off, none⟩) n c zs 3 q W hq (HRG.out W hW) hx (by omega))
  have hn0 : (0 : Int) < (n : Int) := by omega
  have hn1 : (1 : Int) < (n : Int) := by omega
  have hl2 : ¬ (n : Int) < 2 := by omega
  have h2c : (2 : Int) ≤ (n : Int) := by omega
  have h2d : ¬ c = 2 := by omega
  have ea : bits .andNot .u8 f 128 = f := by rw [andNot128 _ (by omega) (by omega)]; omega
  have wp : IntKind.u16.wrap p = p := IntWalk.u16_in _ (by omega)
  have wq : IntKind.u16.wrap q = q := IntWalk.u16_in _ (by omega)
  have eb : bits .and .u8 f 128 = 0 := by rw [and128 _ (by omega) (by omega)]; omega
  obtain ⟨f1, f2, f3, f4, f5, f6, f15, f16, f22, f23, f43⟩ := hf
  have HNN := Lib.hid hn2
  clear hn2
  have HP := Lib.hid hp
  have HQ := Lib.hid hq
  have H0 := Lib.hid h0
  clear hr hx hcell hkw hkw1 hp hq h0
  go_enter Try.func26, Try.ntmps26
  go_upto_region 8 with (first
    | (go_at_call 51
       (with_reducible refine (HSZ.out _ ?_).mono ?_)
       · exact (Below.refl _ _).alloc (Nat.le_refl _) _
       rintro e w' ⟨rfl, rfl⟩)
    | (go_at_call 52
       (with_reducible refine (CN1.out _ ?_).mono ?_)
       · first | exact HKW.out | exact below_drewN HKW.out _
       rintro e w' ⟨rfl, d1, rfl⟩)
    | (go_at_call 52
       (with_reducible refine (CN3.out _ ?_).mono ?_)
       · first | exact HKW.out | exact below_drewN HKW.out _
       rintro e w' ⟨rfl, d3, rfl⟩))
  obtain ⟨w3, hw3, G4, G2, GB⟩ := named HG4 HG2 HKW (d1 + d3)
  have hz3 : w.heap.size + 1 < w3.heap.size := G4.out.lt
  obtain ⟨hs0, hs1, hs2, hs3, hs4, hs5, hs6, hs7, hs8, hs9, hs10, hs11, hs12, hs13⟩ := cells14 G4.out
  obtain ⟨hp0, hp1, hp2, hp3, hp4, hp5, hp6, hp7, hp8, hp9, hp10, hp11, hp12, hp13⟩ := cells14 G2.out
  obtain ⟨hf0, hf1, hf2, hf3, hf4, hf5, hf6, hf7, hf8, hf9, hf10, hf11, hf12, hf13⟩ := frozen14 G4.out
  obtain ⟨hg0, hg1, hg2, hg3, hg4, hg5, hg6, hg7, hg8, hg9, hg10, hg11, hg12, hg13⟩ := frozen14 G2.out
  rw [hw3]
  clear hw3 hc0 hc0b HSZ CN1 CN3
  go_wp2_with fail
  obtain ⟨X, hX⟩ : ∃ X, w3 = X := ⟨_, rfl⟩
  have hx0 := G2.out
  have hxb := GB.out
  rw [hX] at hx0 hxb
  rw [hX]
  exact end14 Try.results26 hx0 rfl hxb (Nat.le_refl _) rfl rfl fun w9 hbb hk => ⟨rfl, hbb⟩

set_option maxRecDepth 100000 in
set_option maxHeartbeats 1000000 in
theorem pfl_len (A : Option Addr) (n c : Nat) (m sz : Int) (w : World) (h2 : 2 ≤ n) (hs : ∀ W, Below w.heap.size w W → Calls Try.prog 51 #[.slice A n c] W fun e w' => e = .returned (.int .i64 sz) ∧ W = w') (hne : ((n : Int) != sz) = true) :
    Calls Try.prog 26 #[.slice A n c, .int .i64 m] w fun e w' => e = .returned (.tuple #[.agg #[.int .i64 0, .int .i64 0, .slice none 0 0, .slice none 0 0, .int .i64 0, .int .i64 0, .int .u16 0, .int .u16 0, .int .u16 0, .int .i64 0, .int .i64 0, .bool false, .int .i64 0, .slice none 0 0], .bool false]) ∧ Below w.heap.size w w' := by
  have HX : Hid (WholeV (w.alloc (.cells #[.int .i64 0, .int .i64 0, .slice none 0 0, .slice none 0 0, .int .i64 0, .int .i64 0, .int .u16 0, .int .u16 0, .int .u16 0, .int .i64 0, .int .i64 0, .bool false, .int .i64 0, .slice none 0 0] 28)) w.heap.size 28 [.int .i64 0, .int .i64 0, .slice none 0 0, .slice none 0 0, .int .i64 0, .int .i64 0, .int .u16 0, .int .u16 0, .int .u16 0, .int .i64 0, .int .i64 0, .bool false, .int .i64 0, .slice none 0 0]) := heap_alloc_new w _
  have HB : Hid (Below w.heap.size w (w.alloc (.cells #[.int .i64 0, .int .i64 0, .slice none 0 0, .slice none 0 0, .int .i64 0, .int .i64 0, .int .u16 0, .int .u16 0, .int .u16 0, .int .i64 0, .int .i64 0, .bool false, .int .i64 0, .slice none 0 0] 28))) := (Below.refl _ _).alloc (Nat.le_refl _) _
  have CS := Lib.hid (hs _ HB.out)
  have hl2 : ¬ (n : Int) < 2 := by omega
  clear hs h2
  go_enter Try.func26, Try.ntmps26
  go_wp2_with (first
    | (go_at_call 51; (with_reducible refine CS.out.mono ?_); rintro e w' ⟨rfl, rfl⟩))
  have hz := HX.out.lt
  obtain ⟨he0, he1, he2, he3, he4, he5, he6, he7, he8, he9, he10, he11, he12, he13⟩ := cells14 HX.out
  exact bodyPost_ret (v := .tuple #[.agg #[.int .i64 0, .int .i64 0, .slice none 0 0, .slice none 0 0, .int .i64 0, .int .i64 0, .int .u16 0, .int .u16 0, .int .u16 0, .int .i64 0, .int .i64 0, .bool false, .int .i64 0, .slice none 0 0], .bool false]) (by simp [results, Try.results26, go_sem, hz, he0, he1, he2, he3, he4, he5, he6, he7, he8, he9, he10, he11, he12, he13]) rfl ⟨rfl, HB.out⟩

set_option maxRecDepth 100000 in
set_option maxHeartbeats 4000000 in
theorem pfl_b_yes_1 (b off n c : Nat) (zs : List Int) (m p q : Int) (t : Nat) (k : Nat) (w : World) (hr : Row .u8 w w.heap.size (some ⟨b, off, none⟩) n zs) (hx : Bytes8 zs) (hn : n ≤ 1000) (h0 : zs.getD 0 0 = 1) (hc : n ≤ c) (hc2 : c ≠ 2) (hp : gotW zs n 1 = p) (hq : gotW zs n 3 = q) (hu : zs.getD 1 0 = (t : Int)) (hnt : n = 2 + t) (hk : m = (k : Int)) (hkn : t = nb k) :
    Calls Try.prog 26 #[.slice (some ⟨b, off, none⟩) n c, .int .i64 m] w fun e w' => ∃ G g, e = .returned (.tuple #[.agg #[.int .i64 1, .int .i64 0, .slice G k g, .slice none 0 0, .int .i64 0, .int .i64 0, .int .u16 0, .int .u16 0, .int .u16 0, .int .i64 0, .int .i64 0, .bool false, .int .i64 0, .slice none 0 0], .bool true]) ∧ w'.ownsRow w.heap.size 4 1 (.slice G k g) k ((unb (zs.drop 2) k).map Value.bool) ∧ Below w.heap.size w w' := by
  have h2n : 2 ≤ n := by omega
  obtain ⟨lop, hip⟩ := gotW_bounds hx n 1
  rw [hp] at lop hip
  obtain ⟨loq, hiq⟩ := gotW_bounds hx n 3
  rw [hq] at loq hiq
  obtain ⟨b', off', e1, hb, hcell⟩ := hr.2 (by omega)
  injection e1 with e1
  injection e1 with e1 e2
  subst e1 e2
  obtain ⟨hkw1, hkw, hg4, hg2⟩ := box2 w 28 [.int .i64 0, .int .i64 0, .slice none 0 0, .slice none 0 0, .int .i64 0, .int .i64 0, .int .u16 0, .int .u16 0, .int .u16 0, .int .i64 0, .int .i64 0, .bool false, .int .i64 0, .slice none 0 0] [.int .i64 1, .int .i64 0, .slice none 0 0, .slice none 0 0, .int .i64 0, .int .i64 0, .int .u16 0, .int .u16 0, .int .u16 0, .int .i64 0, .int .i64 0, .bool false, .int .i64 0, .slice none 0 0]
  have HCE := Lib.hid (fun X (hX : Below w.heap.size w X) j (hj : j < n) => (hX.cell (p := ⟨b, off + j, none⟩) hb).trans (hcell j hj))
  have hc0 := HCE.out _ hkw1 0 (by omega)
  rw [Nat.add_zero, h0] at hc0
  have hc0b := HCE.out _ hkw 0 (by omega)
  rw [Nat.add_zero, h0] at hc0b
  have HRG := Lib.hid (fun X (hX : Below w.heap.size w X) => (hr.below hX).more hX.size)
  have HTL := Lib.hid (fun X (hX : Below w.heap.size w X) => (((hr.below hX).more hX.size : Row .u8 X X.heap.size (some ⟨b, off, none⟩) n zs)).tail (l := 2) (q := n - 2) (by omega))
  have HX := Lib.hid hx
  have HKW := Lib.hid hkw
  have HG4 := Lib.hid hg4
  have HG2 := Lib.hid hg2
  clear hg4 hg2
  have HSZ := Lib.hid (fun W (hW : Below w.heap.size w W) => show Calls Try.prog 51 #[.slice (some ⟨b, off, none⟩) n c] W (fun e w1 => e = .returned (.int .i64 (n : Int)) ∧ W = w1) from by have h := psz_list (some ⟨b, off, none⟩) n c zs W 1 (t : Int) (HRG.out W hW) hx hn (by omega) h0 (by omega) hu; rw [show (n : Int) = 2 + (t : Int) by omega]; exact h)
  have CN1 := Lib.hid (fun W (hW : Below w.heap.size w W) => pnumber_any (some ⟨b, off, none⟩) n c zs 1 p W hp (HRG.out W hW) hx (by omega))
  have CN3 := Lib.hid (fun W (hW : Below w.heap.size w W) => pnumber_any (some ⟨b, off, none⟩) n c zs 3 q W hq (HRG.out W hW) hx (by omega))
  have hn0 : (0 : Int) < (n : Int) := by omega
  have hn1 : (1 : Int) < (n : Int) := by omega
  have hl2 : ¬ (n : Int) < 2 := by omega
  have h2c : (2 : Int) ≤ (n : Int) := by omega
  have h2d : ¬ c = 2 := by omega
  have ea : bits .andNot .u8 1 128 = 1 := by rw [andNot128 _ (by omega) (by omega)]; omega
  have wp : IntKind.u16.wrap p = p := IntWalk.u16_in _ (by omega)
  have wq : IntKind.u16.wrap q = q := IntWalk.u16_in _ (by omega)
  have eb : bits .and .u8 1 128 = 0 := by rw [and128 _ (by omega) (by omega)]; omega
  have hn2t : n - 2 = t := by omega
  have HNT := Lib.hid hnt
  rw [hn2t] at HTL
  have hc1 := HCE.out
  clear hc1
  have CU := Lib.hid (fun (d : Nat) W (hW : Below w.heap.size w W) => punpack_own (some ⟨b, off + 2, none⟩) t d k m (zs.drop 2) W hkn hk (HTL.out W hW) (hx.drop 2) (by unfold nb at hkn; omega))
  clear hnt hu hk hkn
  have HP := Lib.hid hp
  have HQ := Lib.hid hq
  have H0 := Lib.hid h0
  clear hr hx hcell hkw hkw1 hp hq h0
  go_enter Try.func26, Try.ntmps26
  go_upto_region 8 with (first
    | (go_at_call 51
       (with_reducible refine (HSZ.out _ ?_).mono ?_)
       · exact (Below.refl _ _).alloc (Nat.le_refl _) _
       rintro e w' ⟨rfl, rfl⟩)
    | (go_at_call 52
       (with_reducible refine (CN1.out _ ?_).mono ?_)
       · first | exact HKW.out | exact below_drewN HKW.out _
       rintro e w' ⟨rfl, d1, rfl⟩)
    | (go_at_call 52
       (with_reducible refine (CN3.out _ ?_).mono ?_)
       · first | exact HKW.out | exact below_drewN HKW.out _
       rintro e w' ⟨rfl, d3, rfl⟩))
  obtain ⟨w3, hw3, G4, G2, GB⟩ := named HG4 HG2 HKW (d1 + d3)
  have hz3 : w.heap.size + 1 < w3.heap.size := G4.out.lt
  obtain ⟨hs0, hs1, hs2, hs3, hs4, hs5, hs6, hs7, hs8, hs9, hs10, hs11, hs12, hs13⟩ := cells14 G4.out
  obtain ⟨hp0, hp1, hp2, hp3, hp4, hp5, hp6, hp7, hp8, hp9, hp10, hp11, hp12, hp13⟩ := cells14 G2.out
  obtain ⟨hf0, hf1, hf2, hf3, hf4, hf5, hf6, hf7, hf8, hf9, hf10, hf11, hf12, hf13⟩ := frozen14 G4.out
  obtain ⟨hg0, hg1, hg2, hg3, hg4, hg5, hg6, hg7, hg8, hg9, hg10, hg11, hg12, hg13⟩ := frozen14 G2.out
  rw [hw3]
  clear hw3 hc0 hc0b HSZ CN1 CN3
  go_wp2_with (first
    | (go_at_call 53
       (with_reducible refine (CU.out _ _ ?_).mono ?_)
       · first | exact GB.out | exact GB.out.drew | exact below_drewN GB.out _
       rintro e w5 ⟨G, g, rfl, ho5, hb5⟩
       have hb5' : Below w3.heap.size w3 w5 := by first | exact hb5 | exact (Below.refl _ _).drew.trans hb5
       have h1 := G4.out.below hb5' G4.out.lt
       have h0' := G2.out.below hb5' G2.out.lt
       have HB5 : Hid (Below w.heap.size w w5) := GB.out.trans (hb5'.mono GB.out.size)
       have hz5 : w.heap.size + 1 < w5.heap.size := h1.lt
       obtain ⟨ks0, ks1, ks2, ks3, ks4, ks5, ks6, ks7, ks8, ks9, ks10, ks11, ks12, ks13⟩ := cells14 h1
       obtain ⟨kp0, kp1, kp2, kp3, kp4, kp5, kp6, kp7, kp8, kp9, kp10, kp11, kp12, kp13⟩ := cells14 h0'
       obtain ⟨kf0, kf1, kf2, kf3, kf4, kf5, kf6, kf7, kf8, kf9, kf10, kf11, kf12, kf13⟩ := frozen14 h1
       obtain ⟨kg0, kg1, kg2, kg3, kg4, kg5, kg6, kg7, kg8, kg9, kg10, kg11, kg12, kg13⟩ := frozen14 h0'
       have HH1 := Lib.hid h1
       have HH0 := Lib.hid h0'
       have HO5 : Hid (w5.ownsRow (w.heap.size + 2) 4 1 (.slice G k g) k ((unb (zs.drop 2) k).map Value.bool)) := own_mono ho5 (show w.heap.size + 2 ≤ w3.heap.size by omega)
       clear h1 h0' hb5 hb5' ho5))
  obtain ⟨X, hX⟩ : ∃ X, (w5.setCell ⟨w.heap.size + 1, 2, none⟩ (.slice G k g)) = X := ⟨_, rfl⟩
  have hx0 := (whole_far HH0.out (show w.heap.size ≠ w.heap.size + 1 by omega) 2 (.slice G k g))
  have hxb := (HB5.out.setCell (p := ⟨w.heap.size + 1, 2, none⟩) (Nat.le_succ _) (.slice G k g))
  have hox := (own_far HO5.out ⟨w.heap.size + 1, 2, none⟩ (show w.heap.size + 1 < w.heap.size + 2 by omega) (.slice G k g))
  rw [hX] at hx0 hxb hox
  rw [hX]
  exact end14 Try.results26 hx0 rfl hxb (Nat.le_refl _) rfl rfl fun w9 hbb hk => ⟨_, _, rfl, own_mono (own_blk hox hk (show w.heap.size < w.heap.size + 2 by omega)) (by omega), hbb⟩

set_option maxRecDepth 100000 in
set_option maxHeartbeats 4000000 in
theorem pfl_b_yes_2 (b off n c : Nat) (zs : List Int) (m p q : Int) (t : Nat) (k : Nat) (w : World) (hr : Row .u8 w w.heap.size (some ⟨b, off, none⟩) n zs) (hx : Bytes8 zs) (hn : n ≤ 1000) (h0 : zs.getD 0 0 = 2) (hc : n ≤ c) (hc2 : c ≠ 2) (hp : gotW zs n 1 = p) (hq : gotW zs n 3 = q) (hu : zs.getD 1 0 = (t : Int)) (hnt : n = 2 + t) (hk : m = (k : Int)) (hkn : t = nb k) :
    Calls Try.prog 26 #[.slice (some ⟨b, off, none⟩) n c, .int .i64 m] w fun e w' => ∃ G g, e = .returned (.tuple #[.agg #[.int .i64 2, .int .i64 0, .slice G k g, .slice none 0 0, .int .i64 0, .int .i64 0, .int .u16 0, .int .u16 0, .int .u16 0, .int .i64 0, .int .i64 0, .bool false, .int .i64 0, .slice none 0 0], .bool true]) ∧ w'.ownsRow w.heap.size 4 1 (.slice G k g) k ((unb (zs.drop 2) k).map Value.bool) ∧ Below w.heap.size w w' := by
  have h2n : 2 ≤ n := by omega
  obtain ⟨lop, hip⟩ := gotW_bounds hx n 1
  rw [hp] at lop hip
  obtain ⟨loq, hiq⟩ := gotW_bounds hx n 3
  rw [hq] at loq hiq
  obtain ⟨b', off', e1, hb, hcell⟩ := hr.2 (by omega)
  injection e1 with e1
  injection e1 with e1 e2
  subst e1 e2
  obtain ⟨hkw1, hkw, hg4, hg2⟩ := box2 w 28 [.int .i64 0, .int .i64 0, .slice none 0 0, .slice none 0 0, .int .i64 0, .int .i64 0, .int .u16 0, .int .u16 0, .int .u16 0, .int .i64 0, .int .i64 0, .bool false, .int .i64 0, .slice none 0 0] [.int .i64 2, .int .i64 0, .slice none 0 0, .slice none 0 0, .int .i64 0, .int .i64 0, .int .u16 0, .int .u16 0, .int .u16 0, .int .i64 0, .int .i64 0, .bool false, .int .i64 0, .slice none 0 0]
  have HCE := Lib.hid (fun X (hX : Below w.heap.size w X) j (hj : j < n) => (hX.cell (p := ⟨b, off + j, none⟩) hb).trans (hcell j hj))
  have hc0 := HCE.out _ hkw1 0 (by omega)
  rw [Nat.add_zero, h0] at hc0
  have hc0b := HCE.out _ hkw 0 (by omega)
  rw [Nat.add_zero, h0] at hc0b
  have HRG := Lib.hid (fun X (hX : Below w.heap.size w X) => (hr.below hX).more hX.size)
  have HTL := Lib.hid (fun X (hX : Below w.heap.size w X) => (((hr.below hX).more hX.size : Row .u8 X X.heap.size (some ⟨b, off, none⟩) n zs)).tail (l := 2) (q := n - 2) (by omega))
  have HX := Lib.hid hx
  have HKW := Lib.hid hkw
  have HG4 := Lib.hid hg4
  have HG2 := Lib.hid hg2
  clear hg4 hg2
  have HSZ := Lib.hid (fun W (hW : Below w.heap.size w W) => show Calls Try.prog 51 #[.slice (some ⟨b, off, none⟩) n c] W (fun e w1 => e = .returned (.int .i64 (n : Int)) ∧ W = w1) from by have h := psz_list (some ⟨b, off, none⟩) n c zs W 2 (t : Int) (HRG.out W hW) hx hn (by omega) h0 (by omega) hu; rw [show (n : Int) = 2 + (t : Int) by omega]; exact h)
  have CN1 := Lib.hid (fun W (hW : Below w.heap.size w W) => pnumber_any (some ⟨b, off, none⟩) n c zs 1 p W hp (HRG.out W hW) hx (by omega))
  have CN3 := Lib.hid (fun W (hW : Below w.heap.size w W) => pnumber_any (some ⟨b, off, none⟩) n c zs 3 q W hq (HRG.out W hW) hx (by omega))
  have hn0 : (0 : Int) < (n : Int) := by omega
  have hn1 : (1 : Int) < (n : Int) := by omega
  have hl2 : ¬ (n : Int) < 2 := by omega
  have h2c : (2 : Int) ≤ (n : Int) := by omega
  have h2d : ¬ c = 2 := by omega
  have ea : bits .andNot .u8 2 128 = 2 := by rw [andNot128 _ (by omega) (by omega)]; omega
  have wp : IntKind.u16.wrap p = p := IntWalk.u16_in _ (by omega)
  have wq : IntKind.u16.wrap q = q := IntWalk.u16_in _ (by omega)
  have eb : bits .and .u8 2 128 = 0 := by rw [and128 _ (by omega) (by omega)]; omega
  have hn2t : n - 2 = t := by omega
  have HNT := Lib.hid hnt
  rw [hn2t] at HTL
  have hc1 := HCE.out
  clear hc1
  have CU := Lib.hid (fun (d : Nat) W (hW : Below w.heap.size w W) => punpack_own (some ⟨b, off + 2, none⟩) t d k m (zs.drop 2) W hkn hk (HTL.out W hW) (hx.drop 2) (by unfold nb at hkn; omega))
  clear hnt hu hk hkn
  have HP := Lib.hid hp
  have HQ := Lib.hid hq
  have H0 := Lib.hid h0
  clear hr hx hcell hkw hkw1 hp hq h0
  go_enter Try.func26, Try.ntmps26
  go_upto_region 8 with (first
    | (go_at_call 51
       (with_reducible refine (HSZ.out _ ?_).mono ?_)
       · exact (Below.refl _ _).alloc (Nat.le_refl _) _
       rintro e w' ⟨rfl, rfl⟩)
    | (go_at_call 52
       (with_reducible refine (CN1.out _ ?_).mono ?_)
       · first | exact HKW.out | exact below_drewN HKW.out _
       rintro e w' ⟨rfl, d1, rfl⟩)
    | (go_at_call 52
       (with_reducible refine (CN3.out _ ?_).mono ?_)
       · first | exact HKW.out | exact below_drewN HKW.out _
       rintro e w' ⟨rfl, d3, rfl⟩))
  obtain ⟨w3, hw3, G4, G2, GB⟩ := named HG4 HG2 HKW (d1 + d3)
  have hz3 : w.heap.size + 1 < w3.heap.size := G4.out.lt
  obtain ⟨hs0, hs1, hs2, hs3, hs4, hs5, hs6, hs7, hs8, hs9, hs10, hs11, hs12, hs13⟩ := cells14 G4.out
  obtain ⟨hp0, hp1, hp2, hp3, hp4, hp5, hp6, hp7, hp8, hp9, hp10, hp11, hp12, hp13⟩ := cells14 G2.out
  obtain ⟨hf0, hf1, hf2, hf3, hf4, hf5, hf6, hf7, hf8, hf9, hf10, hf11, hf12, hf13⟩ := frozen14 G4.out
  obtain ⟨hg0, hg1, hg2, hg3, hg4, hg5, hg6, hg7, hg8, hg9, hg10, hg11, hg12, hg13⟩ := frozen14 G2.out
  rw [hw3]
  clear hw3 hc0 hc0b HSZ CN1 CN3
  go_wp2_with (first
    | (go_at_call 53
       (with_reducible refine (CU.out _ _ ?_).mono ?_)
       · first | exact GB.out | exact GB.out.drew | exact below_drewN GB.out _
       rintro e w5 ⟨G, g, rfl, ho5, hb5⟩
       have hb5' : Below w3.heap.size w3 w5 := by first | exact hb5 | exact (Below.refl _ _).drew.trans hb5
       have h1 := G4.out.below hb5' G4.out.lt
       have h0' := G2.out.below hb5' G2.out.lt
       have HB5 : Hid (Below w.heap.size w w5) := GB.out.trans (hb5'.mono GB.out.size)
       have hz5 : w.heap.size + 1 < w5.heap.size := h1.lt
       obtain ⟨ks0, ks1, ks2, ks3, ks4, ks5, ks6, ks7, ks8, ks9, ks10, ks11, ks12, ks13⟩ := cells14 h1
       obtain ⟨kp0, kp1, kp2, kp3, kp4, kp5, kp6, kp7, kp8, kp9, kp10, kp11, kp12, kp13⟩ := cells14 h0'
       obtain ⟨kf0, kf1, kf2, kf3, kf4, kf5, kf6, kf7, kf8, kf9, kf10, kf11, kf12, kf13⟩ := frozen14 h1
       obtain ⟨kg0, kg1, kg2, kg3, kg4, kg5, kg6, kg7, kg8, kg9, kg10, kg11, kg12, kg13⟩ := frozen14 h0'
       have HH1 := Lib.hid h1
       have HH0 := Lib.hid h0'
       have HO5 : Hid (w5.ownsRow (w.heap.size + 2) 4 1 (.slice G k g) k ((unb (zs.drop 2) k).map Value.bool)) := own_mono ho5 (show w.heap.size + 2 ≤ w3.heap.size by omega)
       clear h1 h0' hb5 hb5' ho5))
  obtain ⟨X, hX⟩ : ∃ X, (w5.setCell ⟨w.heap.size + 1, 2, none⟩ (.slice G k g)) = X := ⟨_, rfl⟩
  have hx0 := (whole_far HH0.out (show w.heap.size ≠ w.heap.size + 1 by omega) 2 (.slice G k g))
  have hxb := (HB5.out.setCell (p := ⟨w.heap.size + 1, 2, none⟩) (Nat.le_succ _) (.slice G k g))
  have hox := (own_far HO5.out ⟨w.heap.size + 1, 2, none⟩ (show w.heap.size + 1 < w.heap.size + 2 by omega) (.slice G k g))
  rw [hX] at hx0 hxb hox
  rw [hX]
  exact end14 Try.results26 hx0 rfl hxb (Nat.le_refl _) rfl rfl fun w9 hbb hk => ⟨_, _, rfl, own_mono (own_blk hox hk (show w.heap.size < w.heap.size + 2 by omega)) (by omega), hbb⟩

set_option maxRecDepth 100000 in
set_option maxHeartbeats 4000000 in
theorem pfl_b_no_1 (b off n c : Nat) (zs : List Int) (m p q : Int) (t : Nat) (w : World) (hr : Row .u8 w w.heap.size (some ⟨b, off, none⟩) n zs) (hx : Bytes8 zs) (hn : n ≤ 1000) (h0 : zs.getD 0 0 = 1) (hc : n ≤ c) (hc2 : c ≠ 2) (hp : gotW zs n 1 = p) (hq : gotW zs n 3 = q) (hu : zs.getD 1 0 = (t : Int)) (hnt : n = 2 + t) (hm0 : -9223372036854775808 ≤ m) (hm1 : m ≤ 9223372036854775807) (hno : m < 0 ∨ nbI m ≠ t) :
    Calls Try.prog 26 #[.slice (some ⟨b, off, none⟩) n c, .int .i64 m] w fun e w' => e = .returned (.tuple #[.agg #[.int .i64 1, .int .i64 0, .slice none 0 0, .slice none 0 0, .int .i64 0, .int .i64 0, .int .u16 0, .int .u16 0, .int .u16 0, .int .i64 0, .int .i64 0, .bool false, .int .i64 0, .slice none 0 0], .bool false]) ∧ Below w.heap.size w w' := by
  have h2n : 2 ≤ n := by omega
  obtain ⟨lop, hip⟩ := gotW_bounds hx n 1
  rw [hp] at lop hip
  obtain ⟨loq, hiq⟩ := gotW_bounds hx n 3
  rw [hq] at loq hiq
  obtain ⟨b', off', e1, hb, hcell⟩ := hr.2 (by omega)
  injection e1 with e1
  injection e1 with e1 e2
  subst e1 e2
  obtain ⟨hkw1, hkw, hg4, hg2⟩ := box2 w 28 [.int .i64 0, .int .i64 0, .slice none 0 0, .slice none 0 0, .int .i64 0, .int .i64 0, .int .u16 0, .int .u16 0, .int .u16 0, .int .i64 0, .int .i64 0, .bool false, .int .i64 0, .slice none 0 0] [.int .i64 1, .int .i64 0, .slice none 0 0, .slice none 0 0, .int .i64 0, .int .i64 0, .int .u16 0, .int .u16 0, .int .u16 0, .int .i64 0, .int .i64 0, .bool false, .int .i64 0, .slice none 0 0]
  have HCE := Lib.hid (fun X (hX : Below w.heap.size w X) j (hj : j < n) => (hX.cell (p := ⟨b, off + j, none⟩) hb).trans (hcell j hj))
  have hc0 := HCE.out _ hkw1 0 (by omega)
  rw [Nat.add_zero, h0] at hc0
  have hc0b := HCE.out _ hkw 0 (by omega)
  rw [Nat.add_zero, h0] at hc0b
  have HRG := Lib.hid (fun X (hX : Below w.heap.size w X) => (hr.below hX).more hX.size)
  have HTL := Lib.hid (fun X (hX : Below w.heap.size w X) => (((hr.below hX).more hX.size : Row .u8 X X.heap.size (some ⟨b, off, none⟩) n zs)).tail (l := 2) (q := n - 2) (by omega))
  have HX := Lib.hid hx
  have HKW := Lib.hid hkw
  have HG4 := Lib.hid hg4
  have HG2 := Lib.hid hg2
  clear hg4 hg2
  have HSZ := Lib.hid (fun W (hW : Below w.heap.size w W) => show Calls Try.prog 51 #[.slice (some ⟨b, off, none⟩) n c] W (fun e w1 => e = .returned (.int .i64 (n : Int)) ∧ W = w1) from by have h := psz_list (some ⟨b, off, none⟩) n c zs W 1 (t : Int) (HRG.out W hW) hx hn (by omega) h0 (by omega) hu; rw [show (n : Int) = 2 + (t : Int) by omega]; exact h)
  have CN1 := Lib.hid (fun W (hW : Below w.heap.size w W) => pnumber_any (some ⟨b, off, none⟩) n c zs 1 p W hp (HRG.out W hW) hx (by omega))
  have CN3 := Lib.hid (fun W (hW : Below w.heap.size w W) => pnumber_any (some ⟨b, off, none⟩) n c zs 3 q W hq (HRG.out W hW) hx (by omega))
  have hn0 : (0 : Int) < (n : Int) := by omega
  have hn1 : (1 : Int) < (n : Int) := by omega
  have hl2 : ¬ (n : Int) < 2 := by omega
  have h2c : (2 : Int) ≤ (n : Int) := by omega
  have h2d : ¬ c = 2 := by omega
  have ea : bits .andNot .u8 1 128 = 1 := by rw [andNot128 _ (by omega) (by omega)]; omega
  have wp : IntKind.u16.wrap p = p := IntWalk.u16_in _ (by omega)
  have wq : IntKind.u16.wrap q = q := IntWalk.u16_in _ (by omega)
  have eb : bits .and .u8 1 128 = 0 := by rw [and128 _ (by omega) (by omega)]; omega
  have hn2t : n - 2 = t := by omega
  have HNT := Lib.hid hnt
  rw [hn2t] at HTL
  have hc1 := HCE.out
  clear hc1
  have CU := Lib.hid (fun (d : Nat) W => unpack_no (some ⟨b, off + 2, none⟩) t d m W hm0 hm1 hno)
  clear hnt hu hm0 hm1 hno
  have HP := Lib.hid hp
  have HQ := Lib.hid hq
  have H0 := Lib.hid h0
  clear hr hx hcell hkw hkw1 hp hq h0
  go_enter Try.func26, Try.ntmps26
  go_upto_region 8 with (first
    | (go_at_call 51
       (with_reducible refine (HSZ.out _ ?_).mono ?_)
       · exact (Below.refl _ _).alloc (Nat.le_refl _) _
       rintro e w' ⟨rfl, rfl⟩)
    | (go_at_call 52
       (with_reducible refine (CN1.out _ ?_).mono ?_)
       · first | exact HKW.out | exact below_drewN HKW.out _
       rintro e w' ⟨rfl, d1, rfl⟩)
    | (go_at_call 52
       (with_reducible refine (CN3.out _ ?_).mono ?_)
       · first | exact HKW.out | exact below_drewN HKW.out _
       rintro e w' ⟨rfl, d3, rfl⟩))
  obtain ⟨w3, hw3, G4, G2, GB⟩ := named HG4 HG2 HKW (d1 + d3)
  have hz3 : w.heap.size + 1 < w3.heap.size := G4.out.lt
  obtain ⟨hs0, hs1, hs2, hs3, hs4, hs5, hs6, hs7, hs8, hs9, hs10, hs11, hs12, hs13⟩ := cells14 G4.out
  obtain ⟨hp0, hp1, hp2, hp3, hp4, hp5, hp6, hp7, hp8, hp9, hp10, hp11, hp12, hp13⟩ := cells14 G2.out
  obtain ⟨hf0, hf1, hf2, hf3, hf4, hf5, hf6, hf7, hf8, hf9, hf10, hf11, hf12, hf13⟩ := frozen14 G4.out
  obtain ⟨hg0, hg1, hg2, hg3, hg4, hg5, hg6, hg7, hg8, hg9, hg10, hg11, hg12, hg13⟩ := frozen14 G2.out
  rw [hw3]
  clear hw3 hc0 hc0b HSZ CN1 CN3
  go_wp2_with (first
    | (go_at_call 53; (with_reducible refine (CU.out _ _).mono ?_); rintro e w5 ⟨rfl, rfl⟩))
  obtain ⟨X, hX⟩ : ∃ X, (w3.setCell ⟨w.heap.size + 1, 2, none⟩ (.slice none 0 0)) = X := ⟨_, rfl⟩
  have hx0 := (whole_far G2.out (show w.heap.size ≠ w.heap.size + 1 by omega) 2 (.slice none 0 0))
  have hxb := (GB.out.setCell (p := ⟨w.heap.size + 1, 2, none⟩) (Nat.le_succ _) (.slice none 0 0))
  rw [hX] at hx0 hxb
  rw [hX]
  exact end14 Try.results26 hx0 rfl hxb (Nat.le_refl _) rfl rfl fun w9 hbb hk => ⟨rfl, hbb⟩

set_option maxRecDepth 100000 in
set_option maxHeartbeats 4000000 in
theorem pfl_b_no_2 (b off n c : Nat) (zs : List Int) (m p q : Int) (t : Nat) (w : World) (hr : Row .u8 w w.heap.size (some ⟨b, off, none⟩) n zs) (hx : Bytes8 zs) (hn : n ≤ 1000) (h0 : zs.getD 0 0 = 2) (hc : n ≤ c) (hc2 : c ≠ 2) (hp : gotW zs n 1 = p) (hq : gotW zs n 3 = q) (hu : zs.getD 1 0 = (t : Int)) (hnt : n = 2 + t) (hm0 : -9223372036854775808 ≤ m) (hm1 : m ≤ 9223372036854775807) (hno : m < 0 ∨ nbI m ≠ t) :
    Calls Try.prog 26 #[.slice (some ⟨b, off, none⟩) n c, .int .i64 m] w fun e w' => e = .returned (.tuple #[.agg #[.int .i64 2, .int .i64 0, .slice none 0 0, .slice none 0 0, .int .i64 0, .int .i64 0, .int .u16 0, .int .u16 0, .int .u16 0, .int .i64 0, .int .i64 0, .bool false, .int .i64 0, .slice none 0 0], .bool false]) ∧ Below w.heap.size w w' := by
  have h2n : 2 ≤ n := by omega
  obtain ⟨lop, hip⟩ := gotW_bounds hx n 1
  rw [hp] at lop hip
  obtain ⟨loq, hiq⟩ := gotW_bounds hx n 3
  rw [hq] at loq hiq
  obtain ⟨b', off', e1, hb, hcell⟩ := hr.2 (by omega)
  injection e1 with e1
  injection e1 with e1 e2
  subst e1 e2
  obtain ⟨hkw1, hkw, hg4, hg2⟩ := box2 w 28 [.int .i64 0, .int .i64 0, .slice none 0 0, .slice none 0 0, .int .i64 0, .int .i64 0, .int .u16 0, .int .u16 0, .int .u16 0, .int .i64 0, .int .i64 0, .bool false, .int .i64 0, .slice none 0 0] [.int .i64 2, .int .i64 0, .slice none 0 0, .slice none 0 0, .int .i64 0, .int .i64 0, .int .u16 0, .int .u16 0, .int .u16 0, .int .i64 0, .int .i64 0, .bool false, .int .i64 0, .slice none 0 0]
  have HCE := Lib.hid (fun X (hX : Below w.heap.size w X) j (hj : j < n) => (hX.cell (p := ⟨b, off + j, none⟩) hb).trans (hcell j hj))
  have hc0 := HCE.out _ hkw1 0 (by omega)
  rw [Nat.add_zero, h0] at hc0
  have hc0b := HCE.out _ hkw 0 (by omega)
  rw [Nat.add_zero, h0] at hc0b
  have HRG := Lib.hid (fun X (hX : Below w.heap.size w X) => (hr.below hX).more hX.size)
  have HTL := Lib.hid (fun X (hX : Below w.heap.size w X) => (((hr.below hX).more hX.size : Row .u8 X X.heap.size (some ⟨b, off, none⟩) n zs)).tail (l := 2) (q := n - 2) (by omega))
  have HX := Lib.hid hx
  have HKW := Lib.hid hkw
  have HG4 := Lib.hid hg4
  have HG2 := Lib.hid hg2
  clear hg4 hg2
  have HSZ := Lib.hid (fun W (hW : Below w.heap.size w W) => show Calls Try.prog 51 #[.slice (some ⟨b, off, none⟩) n c] W (fun e w1 => e = .returned (.int .i64 (n : Int)) ∧ W = w1) from by have h := psz_list (some ⟨b, off, none⟩) n c zs W 2 (t : Int) (HRG.out W hW) hx hn (by omega) h0 (by omega) hu; rw [show (n : Int) = 2 + (t : Int) by omega]; exact h)
  have CN1 := Lib.hid (fun W (hW : Below w.heap.size w W) => pnumber_any (some ⟨b, off, none⟩) n c zs 1 p W hp (HRG.out W hW) hx (by omega))
  have CN3 := Lib.hid (fun W (hW : Below w.heap.size w W) => pnumber_any (some ⟨b, off, none⟩) n c zs 3 q W hq (HRG.out W hW) hx (by omega))
  have hn0 : (0 : Int) < (n : Int) := by omega
  have hn1 : (1 : Int) < (n : Int) := by omega
  have hl2 : ¬ (n : Int) < 2 := by omega
  have h2c : (2 : Int) ≤ (n : Int) := by omega
  have h2d : ¬ c = 2 := by omega
  have ea : bits .andNot .u8 2 128 = 2 := by rw [andNot128 _ (by omega) (by omega)]; omega
  have wp : IntKind.u16.wrap p = p := IntWalk.u16_in _ (by omega)
  have wq : IntKind.u16.wrap q = q := IntWalk.u16_in _ (by omega)
  have eb : bits .and .u8 2 128 = 0 := by rw [and128 _ (by omega) (by omega)]; omega
  have hn2t : n - 2 = t := by omega
  have HNT := Lib.hid hnt
  rw [hn2t] at HTL
  have hc1 := HCE.out
  clear hc1
  have CU := Lib.hid (fun (d : Nat) W => unpack_no (some ⟨b, off + 2, none⟩) t d m W hm0 hm1 hno)
  clear hnt hu hm0 hm1 hno
  have HP := Lib.hid hp
  have HQ := Lib.hid hq
  have H0 := Lib.hid h0
  clear hr hx hcell hkw hkw1 hp hq h0
  go_enter Try.func26, Try.ntmps26
  go_upto_region 8 with (first
    | (go_at_call 51
       (with_reducible refine (HSZ.out _ ?_).mono ?_)
       · exact (Below.refl _ _).alloc (Nat.le_refl _) _
       rintro e w' ⟨rfl, rfl⟩)
    | (go_at_call 52
       (with_reducible refine (CN1.out _ ?_).mono ?_)
       · first | exact HKW.out | exact below_drewN HKW.out _
       rintro e w' ⟨rfl, d1, rfl⟩)
    | (go_at_call 52
       (with_reducible refine (CN3.out _ ?_).mono ?_)
       · first | exact HKW.out | exact below_drewN HKW.out _
       rintro e w' ⟨rfl, d3, rfl⟩))
  obtain ⟨w3, hw3, G4, G2, GB⟩ := named HG4 HG2 HKW (d1 + d3)
  have hz3 : w.heap.size + 1 < w3.heap.size := G4.out.lt
  obtain ⟨hs0, hs1, hs2, hs3, hs4, hs5, hs6, hs7, hs8, hs9, hs10, hs11, hs12, hs13⟩ := cells14 G4.out
  obtain ⟨hp0, hp1, hp2, hp3, hp4, hp5, hp6, hp7, hp8, hp9, hp10, hp11, hp12, hp13⟩ := cells14 G2.out
  obtain ⟨hf0, hf1, hf2, hf3, hf4, hf5, hf6, hf7, hf8, hf9, hf10, hf11, hf12, hf13⟩ := frozen14 G4.out
  obtain ⟨hg0, hg1, hg2, hg3, hg4, hg5, hg6, hg7, hg8, hg9, hg10, hg11, hg12, hg13⟩ := frozen14 G2.out
  rw [hw3]
  clear hw3 hc0 hc0b HSZ CN1 CN3
  go_wp2_with (first
    | (go_at_call 53; (with_reducible refine (CU.out _ _).mono ?_); rintro e w5 ⟨rfl, rfl⟩))
  obtain ⟨X, hX⟩ : ∃ X, (w3.setCell ⟨w.heap.size + 1, 2, none⟩ (.slice none 0 0)) = X := ⟨_, rfl⟩
  have hx0 := (whole_far G2.out (show w.heap.size ≠ w.heap.size + 1 by omega) 2 (.slice none 0 0))
  have hxb := (GB.out.setCell (p := ⟨w.heap.size + 1, 2, none⟩) (Nat.le_succ _) (.slice none 0 0))
  rw [hX] at hx0 hxb
  rw [hX]
  exact end14 Try.results26 hx0 rfl hxb (Nat.le_refl _) rfl rfl fun w9 hbb hk => ⟨rfl, hbb⟩

end Go.Proofs.Ytielfekkonflfaa

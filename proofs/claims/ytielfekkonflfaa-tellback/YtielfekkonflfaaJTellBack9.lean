/- Joined: Hrd1 Hrd2. -/
import Derived.Test.YtielfekkonflfaaJTellBack2
import Derived.Test.YtielfekkonflfaaJTellBack5
import Derived.Deep.CutBlock
import Derived.Deep.RegionLaw
namespace Go.Proofs.Ytielfekkonflfaa
open Go.ChangeShapes Go.WideShapes Go.ChangeAt Go.RowKit
set_option linter.unusedVariables false
set_option linter.unusedSimpArgs false

set_option maxRecDepth 100000 in
set_option maxHeartbeats 4000000 in
theorem hrd_6 (b off n c : Nat) (zs : List Int) (m : Int) (p q : Int) (bb : Bool) (w : World) (hr : Row .u8 w w.heap.size (some ⟨b, off, none⟩) n zs) (hx : Bytes8 zs) (hn : n ≤ 1000) (h1n : 1 ≤ n) (h0 : zs.getD 0 0 = 6) (hc : n ≤ c) (hp : gotW zs n 1 = p) (hq : gotW zs n 3 = q) (hb5 : ((n : Int) == 5) = bb) :
    Calls Try.prog 36 #[.slice (some ⟨b, off, none⟩) n c, .int .i64 m] w fun e w' => e = .returned (.tuple #[.agg #[.int .i64 6, .int .i64 0, .slice none 0 0, .slice none 0 0, .int .i64 p, .int .i64 0, .int .u16 q, .int .u16 0, .int .u16 0, .int .i64 0, .int .i64 0, .bool false, .int .i64 0, .slice none 0 0], .bool bb]) ∧ Below w.heap.size w w' := by
  obtain ⟨b', off', e1, hb, hcell⟩ := hr.2 (by omega)
  injection e1 with e1
  injection e1 with e1 e2
  subst e1 e2
  obtain ⟨hkw1, hkw, hg4, hg2⟩ := box2 w 28 [.int .i64 0, .int .i64 0, .slice none 0 0, .slice none 0 0, .int .i64 0, .int .i64 0, .int .u16 0, .int .u16 0, .int .u16 0, .int .i64 0, .int .i64 0, .bool false, .int .i64 0, .slice none 0 0] [.int .i64 6, .int .i64 0, .slice none 0 0, .slice none 0 0, .int .i64 0, .int .i64 0, .int .u16 0, .int .u16 0, .int .u16 0, .int .i64 0, .int .i64 0, .bool false, .int .i64 0, .slice none 0 0]
  have HCE := Lib.hid (fun X (hX : Below w.heap.size w X) j (hj : j < n) => (hX.cell (p := ⟨b, off + j, none⟩) hb).trans (hcell j hj))
  have hc0 := HCE.out _ hkw1 0 (by omega)
  rw [Nat.add_zero, h0] at hc0
  have HRG := Lib.hid (fun X (hX : Below w.heap.size w X) => (hr.below hX).more hX.size)
  have HX := Lib.hid hx
  have HKW := Lib.hid hkw
  have HG4 := Lib.hid hg4
  have HG2 := Lib.hid hg2
  clear hg4 hg2
  have hn0 : (0 : Int) < (n : Int) := by omega
  obtain ⟨lop, hip⟩ := gotW_bounds hx n 1
  rw [hp] at lop hip
  obtain ⟨loq, hiq⟩ := gotW_bounds hx n 3
  rw [hq] at loq hiq
  have wq : IntKind.u16.wrap q = q := IntWalk.u16_in _ (by omega)
  have C1 := Lib.hid (fun W (hW : Below w.heap.size w W) => rword_any (some ⟨b, off, none⟩) n c zs 1 p W hp (HRG.out W hW) hx (by omega))
  have C3 := Lib.hid (fun W (hW : Below w.heap.size w W) => rword_any (some ⟨b, off, none⟩) n c zs 3 q W hq (HRG.out W hW) hx (by omega))
  clear hp hq
  have H0 := Lib.hid h0
  clear hr hcell hkw hkw1 h0
  go_enter Try.func36, Try.ntmps36
  go_upto_region 3 with fail
  obtain ⟨w3, hw3, G4, G2, GB⟩ := named0 HG4 HG2 HKW
  have hz3 : w.heap.size + 1 < w3.heap.size := G4.out.lt
  obtain ⟨hs0, hs1, hs2, hs3, hs4, hs5, hs6, hs7, hs8, hs9, hs10, hs11, hs12, hs13⟩ := cells14 G4.out
  obtain ⟨hp0, hp1, hp2, hp3, hp4, hp5, hp6, hp7, hp8, hp9, hp10, hp11, hp12, hp13⟩ := cells14 G2.out
  obtain ⟨hf0, hf1, hf2, hf3, hf4, hf5, hf6, hf7, hf8, hf9, hf10, hf11, hf12, hf13⟩ := frozen14 G4.out
  obtain ⟨hg0, hg1, hg2, hg3, hg4, hg5, hg6, hg7, hg8, hg9, hg10, hg11, hg12, hg13⟩ := frozen14 G2.out
  rw [hw3]
  clear hw3 hc0 HG4 HG2 HKW
  go_wp2_with (first
    | (go_at_call 63
       (with_reducible refine (C1.out _ ?_).mono ?_)
       · first | exact GB.out | exact below_drewN GB.out _ | exact below_drewN (below_drewN GB.out _) _ | exact (below_drewN GB.out _).setCell (p := ⟨w.heap.size + 1, 4, none⟩) (Nat.le_succ _) _
       rintro e w' ⟨rfl, d1, rfl⟩)
    | (go_at_call 63
       (with_reducible refine (C3.out _ ?_).mono ?_)
       · first | exact GB.out | exact below_drewN GB.out _ | exact below_drewN (below_drewN GB.out _) _ | exact (below_drewN GB.out _).setCell (p := ⟨w.heap.size + 1, 4, none⟩) (Nat.le_succ _) _
       rintro e w' ⟨rfl, d3, rfl⟩))
  obtain ⟨X, hX⟩ : ∃ X, (((w3.drewN (d1 + d3)).setCell ⟨w.heap.size + 1, 4, none⟩ (.int .i64 p)).setCell ⟨w.heap.size + 1, 6, none⟩ (.int .u16 q)) = X := ⟨_, rfl⟩
  have hx0 := (whole_far (whole_far (G2.out.drewN (d1 + d3)) (show w.heap.size ≠ w.heap.size + 1 by omega) 4 (.int .i64 p)) (show w.heap.size ≠ w.heap.size + 1 by omega) 6 (.int .u16 q))
  have hxb := (((below_drewN GB.out (d1 + d3)).setCell (p := ⟨w.heap.size + 1, 4, none⟩) (Nat.le_succ _) (.int .i64 p)).setCell (p := ⟨w.heap.size + 1, 6, none⟩) (Nat.le_succ _) (.int .u16 q))
  rw [hX] at hx0 hxb
  rw [hX]
  exact end14 Try.results36 hx0 rfl hxb (Nat.le_refl _) rfl rfl fun w9 hbb hk => ⟨rfl, hbb⟩

set_option maxRecDepth 100000 in
set_option maxHeartbeats 4000000 in
theorem hrd_15 (b off n c : Nat) (zs : List Int) (m : Int) (p q : Int) (bb : Bool) (w : World) (hr : Row .u8 w w.heap.size (some ⟨b, off, none⟩) n zs) (hx : Bytes8 zs) (hn : n ≤ 1000) (h1n : 1 ≤ n) (h0 : zs.getD 0 0 = 15) (hc : n ≤ c) (hp : gotW zs n 1 = p) (hq : gotW zs n 3 = q) (hb5 : ((n : Int) == 5) = bb) :
    Calls Try.prog 36 #[.slice (some ⟨b, off, none⟩) n c, .int .i64 m] w fun e w' => e = .returned (.tuple #[.agg #[.int .i64 15, .int .i64 0, .slice none 0 0, .slice none 0 0, .int .i64 p, .int .i64 q, .int .u16 0, .int .u16 0, .int .u16 0, .int .i64 0, .int .i64 0, .bool false, .int .i64 0, .slice none 0 0], .bool bb]) ∧ Below w.heap.size w w' := by
  obtain ⟨b', off', e1, hb, hcell⟩ := hr.2 (by omega)
  injection e1 with e1
  injection e1 with e1 e2
  subst e1 e2
  obtain ⟨hkw1, hkw, hg4, hg2⟩ := box2 w 28 [.int .i64 0, .int .i64 0, .slice none 0 0, .slice none 0 0, .int .i64 0, .int .i64 0, .int .u16 0, .int .u16 0, .int .u16 0, .int .i64 0, .int .i64 0, .bool false, .int .i64 0, .slice none 0 0] [.int .i64 15, .int .i64 0, .slice none 0 0, .slice none 0 0, .int .i64 0, .int .i64 0, .int .u16 0, .int .u16 0, .int .u16 0, .int .i64 0, .int .i64 0, .bool false, .int .i64 0, .slice none 0 0]
  have HCE := Lib.hid (fun X (hX : Below w.heap.size w X) j (hj : j < n) => (hX.cell (p := ⟨b, off + j, none⟩) hb).trans (hcell j hj))
  have hc0 := HCE.out _ hkw1 0 (by omega)
  rw [Nat.add_zero, h0] at hc0
  have HRG := Lib.hid (fun X (hX : Below w.heap.size w X) => (hr.below hX).more hX.size)
  have HX := Lib.hid hx
  have HKW := Lib.hid hkw
  have HG4 := Lib.hid hg4
  have HG2 := Lib.hid hg2
  clear hg4 hg2
  have hn0 : (0 : Int) < (n : Int) := by omega
  obtain ⟨lop, hip⟩ := gotW_bounds hx n 1
  rw [hp] at lop hip
  obtain ⟨loq, hiq⟩ := gotW_bounds hx n 3
  rw [hq] at loq hiq
  have wq : IntKind.u16.wrap q = q := IntWalk.u16_in _ (by omega)
  have C1 := Lib.hid (fun W (hW : Below w.heap.size w W) => rword_any (some ⟨b, off, none⟩) n c zs 1 p W hp (HRG.out W hW) hx (by omega))
  have C3 := Lib.hid (fun W (hW : Below w.heap.size w W) => rword_any (some ⟨b, off, none⟩) n c zs 3 q W hq (HRG.out W hW) hx (by omega))
  clear hp hq
  have H0 := Lib.hid h0
  clear hr hcell hkw hkw1 h0
  go_enter Try.func36, Try.ntmps36
  go_upto_region 3 with fail
  obtain ⟨w3, hw3, G4, G2, GB⟩ := named0 HG4 HG2 HKW
  have hz3 : w.heap.size + 1 < w3.heap.size := G4.out.lt
  obtain ⟨hs0, hs1, hs2, hs3, hs4, hs5, hs6, hs7, hs8, hs9, hs10, hs11, hs12, hs13⟩ := cells14 G4.out
  obtain ⟨hp0, hp1, hp2, hp3, hp4, hp5, hp6, hp7, hp8, hp9, hp10, hp11, hp12, hp13⟩ := cells14 G2.out
  obtain ⟨hf0, hf1, hf2, hf3, hf4, hf5, hf6, hf7, hf8, hf9, hf10, hf11, hf12, hf13⟩ := frozen14 G4.out
  obtain ⟨hg0, hg1, hg2, hg3, hg4, hg5, hg6, hg7, hg8, hg9, hg10, hg11, hg12, hg13⟩ := frozen14 G2.out
  rw [hw3]
  clear hw3 hc0 HG4 HG2 HKW
  go_wp2_with (first
    | (go_at_call 63
       (with_reducible refine (C1.out _ ?_).mono ?_)
       · first | exact GB.out | exact below_drewN GB.out _ | exact below_drewN (below_drewN GB.out _) _ | exact (below_drewN GB.out _).setCell (p := ⟨w.heap.size + 1, 4, none⟩) (Nat.le_succ _) _
       rintro e w' ⟨rfl, d1, rfl⟩)
    | (go_at_call 63
       (with_reducible refine (C3.out _ ?_).mono ?_)
       · first | exact GB.out | exact below_drewN GB.out _ | exact below_drewN (below_drewN GB.out _) _ | exact (below_drewN GB.out _).setCell (p := ⟨w.heap.size + 1, 4, none⟩) (Nat.le_succ _) _
       rintro e w' ⟨rfl, d3, rfl⟩))
  obtain ⟨X, hX⟩ : ∃ X, (((w3.drewN (d1 + d3)).setCell ⟨w.heap.size + 1, 4, none⟩ (.int .i64 p)).setCell ⟨w.heap.size + 1, 5, none⟩ (.int .i64 q)) = X := ⟨_, rfl⟩
  have hx0 := (whole_far (whole_far (G2.out.drewN (d1 + d3)) (show w.heap.size ≠ w.heap.size + 1 by omega) 4 (.int .i64 p)) (show w.heap.size ≠ w.heap.size + 1 by omega) 5 (.int .i64 q))
  have hxb := (((below_drewN GB.out (d1 + d3)).setCell (p := ⟨w.heap.size + 1, 4, none⟩) (Nat.le_succ _) (.int .i64 p)).setCell (p := ⟨w.heap.size + 1, 5, none⟩) (Nat.le_succ _) (.int .i64 q))
  rw [hX] at hx0 hxb
  rw [hX]
  exact end14 Try.results36 hx0 rfl hxb (Nat.le_refl _) rfl rfl fun w9 hbb hk => ⟨rfl, hbb⟩

set_option maxRecDepth 100000 in
set_option maxHeartbeats 4000000 in
theorem hrd_16 (b off n c : Nat) (zs : List Int) (m : Int) (p q : Int) (bb : Bool) (w : World) (hr : Row .u8 w w.heap.size (some ⟨b, off, none⟩) n zs) (hx : Bytes8 zs) (hn : n ≤ 1000) (h1n : 1 ≤ n) (h0 : zs.getD 0 0 = 16) (hc : n ≤ c) (hp : gotW zs n 1 = p) (hq : gotW zs n 3 = q) (hb5 : ((n : Int) == 5) = bb) :
    Calls Try.prog 36 #[.slice (some ⟨b, off, none⟩) n c, .int .i64 m] w fun e w' => e = .returned (.tuple #[.agg #[.int .i64 16, .int .i64 0, .slice none 0 0, .slice none 0 0, .int .i64 p, .int .i64 q, .int .u16 0, .int .u16 0, .int .u16 0, .int .i64 0, .int .i64 0, .bool false, .int .i64 0, .slice none 0 0], .bool bb]) ∧ Below w.heap.size w w' := by
  obtain ⟨b', off', e1, hb, hcell⟩ := hr.2 (by omega)
  injection e1 with e1
  injection e1 with e1 e2
  subst e1 e2
  obtain ⟨hkw1, hkw, hg4, hg2⟩ := box2 w 28 [.int .i64 0, .int .i64 0, .slice none 0 0, .slice none 0 0, .int .i64 0, .int .i64 0, .int .u16 0, .int .u16 0, .int .u16 0, .int .i64 0, .int .i64 0, .bool false, .int .i64 0, .slice none 0 0] [.int .i64 16, .int .i64 0, .slice none 0 0, .slice none 0 0, .int .i64 0, .int .i64 0, .int .u16 0, .int .u16 0, .int .u16 0, .int .i64 0, .int .i64 0, .bool false, .int .i64 0, .slice none 0 0]
  have HCE := Lib.hid (fun X (hX : Below w.heap.size w X) j (hj : j < n) => (hX.cell (p := ⟨b, off + j, none⟩) hb).trans (hcell j hj))
  have hc0 := HCE.out _ hkw1 0 (by omega)
  rw [Nat.add_zero, h0] at hc0
  have HRG := Lib.hid (fun X (hX : Below w.heap.size w X) => (hr.below hX).more hX.size)
  have HX := Lib.hid hx
  have HKW := Lib.hid hkw
  have HG4 := Lib.hid hg4
  have HG2 := Lib.hid hg2
  clear hg4 hg2
  have hn0 : (0 : Int) < (n : Int) := by omega
  obtain ⟨lop, hip⟩ := gotW_bounds hx n 1
  rw [hp] at lop hip
  obtain ⟨loq, hiq⟩ := gotW_bounds hx n 3
  rw [hq] at loq hiq
  have wq : IntKind.u16.wrap q = q := IntWalk.u16_in _ (by omega)
  have C1 := Lib.hid (fun W (hW : Below w.heap.size w W) => rword_any (some ⟨b, off, none⟩) n c zs 1 p W hp (HRG.out W hW) hx (by omega))
  have C3 := Lib.hid (fun W (hW : Below w.heap.size w W) => rword_any (some ⟨b, off, none⟩) n c zs 3 q W hq (HRG.out W hW) hx (by omega))
  clear hp hq
  have H0 := Lib.hid h0
  clear hr hcell hkw hkw1 h0
  go_enter Try.func36, Try.ntmps36
  go_upto_region 3 with fail
  obtain ⟨w3, hw3, G4, G2, GB⟩ := named0 HG4 HG2 HKW
  have hz3 : w.heap.size + 1 < w3.heap.size := G4.out.lt
  obtain ⟨hs0, hs1, hs2, hs3, hs4, hs5, hs6, hs7, hs8, hs9, hs10, hs11, hs12, hs13⟩ := cells14 G4.out
  obtain ⟨hp0, hp1, hp2, hp3, hp4, hp5, hp6, hp7, hp8, hp9, hp10, hp11, hp12, hp13⟩ := cells14 G2.out
  obtain ⟨hf0, hf1, hf2, hf3, hf4, hf5, hf6, hf7, hf8, hf9, hf10, hf11, hf12, hf13⟩ := frozen14 G4.out
  obtain ⟨hg0, hg1, hg2, hg3, hg4, hg5, hg6, hg7, hg8, hg9, hg10, hg11, hg12, hg13⟩ := frozen14 G2.out
  rw [hw3]
  clear hw3 hc0 HG4 HG2 HKW
  go_wp2_with (first
    | (go_at_call 63
       (with_reducible refine (C1.out _ ?_).mono ?_)
       · first | exact GB.out | exact below_drewN GB.out _ | exact below_drewN (below_drewN GB.out _) _ | exact (below_drewN GB.out _).setCell (p := ⟨w.heap.size + 1, 4, none⟩) (Nat.le_succ _) _
       rintro e w' ⟨rfl, d1, rfl⟩)
    | (go_at_call 63
       (with_reducible refine (C3.out _ ?_).mono ?_)
       · first | exact GB.out | exact below_drewN GB.out _ | exact below_drewN (below_drewN GB.out _) _ | exact (below_drewN GB.out _).setCell (p := ⟨w.heap.size + 1, 4, none⟩) (Nat.le_succ _) _
       rintro e w' ⟨rfl, d3, rfl⟩))
  obtain ⟨X, hX⟩ : ∃ X, (((w3.drewN (d1 + d3)).setCell ⟨w.heap.size + 1, 4, none⟩ (.int .i64 p)).setCell ⟨w.heap.size + 1, 5, none⟩ (.int .i64 q)) = X := ⟨_, rfl⟩
  have hx0 := (whole_far (whole_far (G2.out.drewN (d1 + d3)) (show w.heap.size ≠ w.heap.size + 1 by omega) 4 (.int .i64 p)) (show w.heap.size ≠ w.heap.size + 1 by omega) 5 (.int .i64 q))
  have hxb := (((below_drewN GB.out (d1 + d3)).setCell (p := ⟨w.heap.size + 1, 4, none⟩) (Nat.le_succ _) (.int .i64 p)).setCell (p := ⟨w.heap.size + 1, 5, none⟩) (Nat.le_succ _) (.int .i64 q))
  rw [hX] at hx0 hxb
  rw [hX]
  exact end14 Try.results36 hx0 rfl hxb (Nat.le_refl _) rfl rfl fun w9 hbb hk => ⟨rfl, hbb⟩

set_option maxRecDepth 100000 in
set_option maxHeartbeats 4000000 in
theorem hrd_22 (b off n c : Nat) (zs : List Int) (m : Int) (p q : Int) (t : Int) (bb : Bool) (w : World) (hr : Row .u8 w w.heap.size (some ⟨b, off, none⟩) n zs) (hx : Bytes8 zs) (hn : n ≤ 1000) (h1n : 1 ≤ n) (h0 : zs.getD 0 0 = 22) (hc : n ≤ c) (hp : gotW zs n 1 = p) (hq : gotW zs n 3 = q) (ht : gotW zs n 5 = t) (hb5 : ((n : Int) == 7) = bb) :
    Calls Try.prog 36 #[.slice (some ⟨b, off, none⟩) n c, .int .i64 m] w fun e w' => e = .returned (.tuple #[.agg #[.int .i64 22, .int .i64 0, .slice none 0 0, .slice none 0 0, .int .i64 p, .int .i64 0, .int .u16 0, .int .u16 q, .int .u16 t, .int .i64 0, .int .i64 0, .bool false, .int .i64 0, .slice none 0 0], .bool bb]) ∧ Below w.heap.size w w' := by
  obtain ⟨b', off', e1, hb, hcell⟩ := hr.2 (by omega)
  injection e1 with e1
  injection e1 with e1 e2
  subst e1 e2
  obtain ⟨hkw1, hkw, hg4, hg2⟩ := box2 w 28 [.int .i64 0, .int .i64 0, .slice none 0 0, .slice none 0 0, .int .i64 0, .int .i64 0, .int .u16 0, .int .u16 0, .int .u16 0, .int .i64 0, .int .i64 0, .bool false, .int .i64 0, .slice none 0 0] [.int .i64 22, .int .i64 0, .slice none 0 0, .slice none 0 0, .int .i64 0, .int .i64 0, .int .u16 0, .int .u16 0, .int .u16 0, .int .i64 0, .int .i64 0, .bool false, .int .i64 0, .slice none 0 0]
  have HCE := Lib.hid (fun X (hX : Below w.heap.size w X) j (hj : j < n) => (hX.cell (p := ⟨b, off + j, none⟩) hb).trans (hcell j hj))
  have hc0 := HCE.out _ hkw1 0 (by omega)
  rw [Nat.add_zero, h0] at hc0
  have HRG := Lib.hid (fun X (hX : Below w.heap.size w X) => (hr.below hX).more hX.size)
  have HX := Lib.hid hx
  have HKW := Lib.hid hkw
  have HG4 := Lib.hid hg4
  have HG2 := Lib.hid hg2
  clear hg4 hg2
  have hn0 : (0 : Int) < (n : Int) := by omega
  obtain ⟨lop, hip⟩ := gotW_bounds hx n 1
  rw [hp] at lop hip
  obtain ⟨loq, hiq⟩ := gotW_bounds hx n 3
  rw [hq] at loq hiq
  have wq : IntKind.u16.wrap q = q := IntWalk.u16_in _ (by omega)
  have C1 := Lib.hid (fun W (hW : Below w.heap.size w W) => rword_any (some ⟨b, off, none⟩) n c zs 1 p W hp (HRG.out W hW) hx (by omega))
  have C3 := Lib.hid (fun W (hW : Below w.heap.size w W) => rword_any (some ⟨b, off, none⟩) n c zs 3 q W hq (HRG.out W hW) hx (by omega))
  clear hp hq
  obtain ⟨lot, hit⟩ := gotW_bounds hx n 5
  rw [ht] at lot hit
  have wt : IntKind.u16.wrap t = t := IntWalk.u16_in _ (by omega)
  have C5 := Lib.hid (fun W (hW : Below w.heap.size w W) => rword_any (some ⟨b, off, none⟩) n c zs 5 t W ht (HRG.out W hW) hx (by omega))
  clear ht
  have H0 := Lib.hid h0
  clear hr hcell hkw hkw1 h0
  go_enter Try.func36, Try.ntmps36
  go_upto_region 3 with fail
  obtain ⟨w3, hw3, G4, G2, GB⟩ := named0 HG4 HG2 HKW
  have hz3 : w.heap.size + 1 < w3.heap.size := G4.out.lt
  obtain ⟨hs0, hs1, hs2, hs3, hs4, hs5, hs6, hs7, hs8, hs9, hs10, hs11, hs12, hs13⟩ := cells14 G4.out
  obtain ⟨hp0, hp1, hp2, hp3, hp4, hp5, hp6, hp7, hp8, hp9, hp10, hp11, hp12, hp13⟩ := cells14 G2.out
  obtain ⟨hf0, hf1, hf2, hf3, hf4, hf5, hf6, hf7, hf8, hf9, hf10, hf11, hf12, hf13⟩ := frozen14 G4.out
  obtain ⟨hg0, hg1, hg2, hg3, hg4, hg5, hg6, hg7, hg8, hg9, hg10, hg11, hg12, hg13⟩ := frozen14 G2.out
  rw [hw3]
  clear hw3 hc0 HG4 HG2 HKW
  go_wp2_with (first
    | (go_at_call 63
       (with_reducible refine (C1.out _ ?_).mono ?_)
       · first | exact GB.out | exact below_drewN GB.out _ | exact below_drewN (below_drewN GB.out _) _ | exact (below_drewN GB.out _).setCell (p := ⟨w.heap.size + 1, 4, none⟩) (Nat.le_succ _) _
       rintro e w' ⟨rfl, d1, rfl⟩)
    | (go_at_call 63
       (with_reducible refine (C3.out _ ?_).mono ?_)
       · first | exact GB.out | exact below_drewN GB.out _ | exact below_drewN (below_drewN GB.out _) _ | exact (below_drewN GB.out _).setCell (p := ⟨w.heap.size + 1, 4, none⟩) (Nat.le_succ _) _
       rintro e w' ⟨rfl, d3, rfl⟩)
    | (go_at_call 63
       (with_reducible refine (C5.out _ ?_).mono ?_)
       · first | exact GB.out | exact below_drewN GB.out _ | exact below_drewN (below_drewN GB.out _) _ | exact (below_drewN GB.out _).setCell (p := ⟨w.heap.size + 1, 4, none⟩) (Nat.le_succ _) _
       rintro e w' ⟨rfl, d5, rfl⟩))
  obtain ⟨X, hX⟩ : ∃ X, ((((w3.drewN (d1 + d3 + d5)).setCell ⟨w.heap.size + 1, 4, none⟩ (.int .i64 p)).setCell ⟨w.heap.size + 1, 7, none⟩ (.int .u16 q)).setCell ⟨w.heap.size + 1, 8, none⟩ (.int .u16 t)) = X := ⟨_, rfl⟩
  have hx0 := (whole_far (whole_far (whole_far (G2.out.drewN (d1 + d3 + d5)) (show w.heap.size ≠ w.heap.size + 1 by omega) 4 (.int .i64 p)) (show w.heap.size ≠ w.heap.size + 1 by omega) 7 (.int .u16 q)) (show w.heap.size ≠ w.heap.size + 1 by omega) 8 (.int .u16 t))
  have hxb := ((((below_drewN GB.out (d1 + d3 + d5)).setCell (p := ⟨w.heap.size + 1, 4, none⟩) (Nat.le_succ _) (.int .i64 p)).setCell (p := ⟨w.heap.size + 1, 7, none⟩) (Nat.le_succ _) (.int .u16 q)).setCell (p := ⟨w.heap.size + 1, 8, none⟩) (Nat.le_succ _) (.int .u16 t))
  rw [hX] at hx0 hxb
  rw [hX]
  exact end14 Try.results36 hx0 rfl hxb (Nat.le_refl _) rfl rfl fun w9 hbb hk => ⟨rfl, hbb⟩

set_option maxRecDepth 100000 in
set_option maxHeartbeats 4000000 in
theorem hrd_5_0 (b off n c : Nat) (zs : List Int) (m : Int) (p q : Int) (w : World) (hr : Row .u8 w w.heap.size (some ⟨b, off, none⟩) n zs) (hx : Bytes8 zs) (hn : n ≤ 1000) (h1n : 1 ≤ n) (h0 : zs.getD 0 0 = 5) (hc : n ≤ c) (hp : gotW zs n 1 = p) (hq : gotW zs n 3 = q) (hb5 : ((n : Int) == 5) = true) (hv : q = 0) :
    Calls Try.prog 36 #[.slice (some ⟨b, off, none⟩) n c, .int .i64 m] w fun e w' => e = .returned (.tuple #[.agg #[.int .i64 5, .int .i64 0, .slice none 0 0, .slice none 0 0, .int .i64 p, .int .i64 0, .int .u16 0, .int .u16 0, .int .u16 0, .int .i64 0, .int .i64 0, .bool false, .int .i64 0, .slice none 0 0], .bool true]) ∧ Below w.heap.size w w' := by
  obtain ⟨b', off', e1, hb, hcell⟩ := hr.2 (by omega)
  injection e1 with e1
  injection e1 with e1 e2
  subst e1 e2
  obtain ⟨hkw1, hkw, hg4, hg2⟩ := box2 w 28 [.int .i64 0, .int .i64 0, .slice none 0 0, .slice none 0 0, .int .i64 0, .int .i64 0, .int .u16 0, .int .u16 0, .int .u16 0, .int .i64 0, .int .i64 0, .bool false, .int .i64 0, .slice none 0 0] [.int .i64 5, .int .i64 0, .slice none 0 0, .slice none 0 0, .int .i64 0, .int .i64 0, .int .u16 0, .int .u16 0, .int .u16 0, .int .i64 0, .int .i64 0, .bool false, .int .i64 0, .slice none 0 0]
  have HCE := Lib.hid (fun X (hX : Below w.heap.size w X) j (hj : j < n) => (hX.cell (p := ⟨b, off + j, none⟩) hb).trans (hcell j hj))
  have hc0 := HCE.out _ hkw1 0 (by omega)
  rw [Nat.add_zero, h0] at hc0
  have HRG := Lib.hid (fun X (hX : Below w.heap.size w X) => (hr.below hX).more hX.size)
  have HX := Lib.hid hx
  have HKW := Lib.hid hkw
  have HG4 := Lib.hid hg4
  have HG2 := Lib.hid hg2
  clear hg4 hg2
  have hn0 : (0 : Int) < (n : Int) := by omega
  obtain ⟨lop, hip⟩ := gotW_bounds hx n 1
  rw [hp] at lop hip
  obtain ⟨loq, hiq⟩ := gotW_bounds hx n 3
  rw [hq] at loq hiq
  have wq : IntKind.u16.wrap q = q := IntWalk.u16_in _ (by omega)
  have C1 := Lib.hid (fun W (hW : Below w.heap.size w W) => rword_any (some ⟨b, off, none⟩) n c zs 1 p W hp (HRG.out W hW) hx (by omega))
  have C3 := Lib.hid (fun W (hW : Below w.heap.size w W) => rword_any (some ⟨b, off, none⟩) n c zs 3 q W hq (HRG.out W hW) hx (by omega))
  clear hp hq
  subst hv
  have H0 := Lib.hid h0
  clear hr hcell hkw hkw1 h0
  go_enter Try.func36, Try.ntmps36
  go_upto_region 3 with fail
  obtain ⟨w3, hw3, G4, G2, GB⟩ := named0 HG4 HG2 HKW
  have hz3 : w.heap.size + 1 < w3.heap.size := G4.out.lt
  obtain ⟨hs0, hs1, hs2, hs3, hs4, hs5, hs6, hs7, hs8, hs9, hs10, hs11, hs12, hs13⟩ := cells14 G4.out
  obtain ⟨hp0, hp1, hp2, hp3, hp4, hp5, hp6, hp7, hp8, hp9, hp10, hp11, hp12, hp13⟩ := cells14 G2.out
  obtain ⟨hf0, hf1, hf2, hf3, hf4, hf5, hf6, hf7, hf8, hf9, hf10, hf11, hf12, hf13⟩ := frozen14 G4.out
  obtain ⟨hg0, hg1, hg2, hg3, hg4, hg5, hg6, hg7, hg8, hg9, hg10, hg11, hg12, hg13⟩ := frozen14 G2.out
  rw [hw3]
  clear hw3 hc0 HG4 HG2 HKW
  go_wp2_with (first
    | (go_at_call 63
       (with_reducible refine (C1.out _ ?_).mono ?_)
       · first | exact GB.out | exact below_drewN GB.out _ | exact below_drewN (below_drewN GB.out _) _ | exact (below_drewN GB.out _).setCell (p := ⟨w.heap.size + 1, 4, none⟩) (Nat.le_succ _) _
       rintro e w' ⟨rfl, d1, rfl⟩)
    | (go_at_call 63
       (with_reducible refine (C3.out _ ?_).mono ?_)
       · first | exact GB.out | exact below_drewN GB.out _ | exact below_drewN (below_drewN GB.out _) _ | exact (below_drewN GB.out _).setCell (p := ⟨w.heap.size + 1, 4, none⟩) (Nat.le_succ _) _
       rintro e w' ⟨rfl, d3, rfl⟩))
  obtain ⟨X, hX⟩ : ∃ X, (((w3.drewN d1).setCell ⟨w.heap.size + 1, 4, none⟩ (.int .i64 p)).drewN d3) = X := ⟨_, rfl⟩
  have hx0 := (show WholeV (((w3.drewN d1).setCell ⟨w.heap.size + 1, 4, none⟩ (.int .i64 p)).drewN d3) w.heap.size 28 [.int .i64 0, .int .i64 0, .slice none 0 0, .slice none 0 0, .int .i64 0, .int .i64 0, .int .u16 0, .int .u16 0, .int .u16 0, .int .i64 0, .int .i64 0, .bool false, .int .i64 0, .slice none 0 0] from whole_far (G2.out.drewN d1) (show w.heap.size ≠ w.heap.size + 1 by omega) 4 (.int .i64 p))
  have hxb := (below_drewN ((below_drewN GB.out d1).setCell (p := ⟨w.heap.size + 1, 4, none⟩) (Nat.le_succ _) (.int .i64 p)) d3)
  rw [hX] at hx0 hxb
  rw [hX]
  exact end14 Try.results36 hx0 rfl hxb (Nat.le_refl _) rfl rfl fun w9 hbb hk => ⟨rfl, hbb⟩

set_option maxRecDepth 100000 in
set_option maxHeartbeats 4000000 in
theorem hrd_5_1 (b off n c : Nat) (zs : List Int) (m : Int) (p q : Int) (w : World) (hr : Row .u8 w w.heap.size (some ⟨b, off, none⟩) n zs) (hx : Bytes8 zs) (hn : n ≤ 1000) (h1n : 1 ≤ n) (h0 : zs.getD 0 0 = 5) (hc : n ≤ c) (hp : gotW zs n 1 = p) (hq : gotW zs n 3 = q) (hb5 : ((n : Int) == 5) = true) (hv : q = 65280) :
    Calls Try.prog 36 #[.slice (some ⟨b, off, none⟩) n c, .int .i64 m] w fun e w' => e = .returned (.tuple #[.agg #[.int .i64 5, .int .i64 0, .slice none 0 0, .slice none 0 0, .int .i64 p, .int .i64 0, .int .u16 1, .int .u16 0, .int .u16 0, .int .i64 0, .int .i64 0, .bool false, .int .i64 0, .slice none 0 0], .bool true]) ∧ Below w.heap.size w w' := by
  obtain ⟨b', off', e1, hb, hcell⟩ := hr.2 (by omega)
  injection e1 with e1
  injection e1 with e1 e2
  subst e1 e2
  obtain ⟨hkw1, hkw, hg4, hg2⟩ := box2 w 28 [.int .i64 0, .int .i64 0, .slice none 0 0, .slice none 0 0, .int .i64 0, .int .i64 0, .int .u16 0, .int .u16 0, .int .u16 0, .int .i64 0, .int .i64 0, .bool false, .int .i64 0, .slice none 0 0] [.int .i64 5, .int .i64 0, .slice none 0 0, .slice none 0 0, .int .i64 0, .int .i64 0, .int .u16 0, .int .u16 0, .int .u16 0, .int .i64 0, .int .i64 0, .bool false, .int .i64 0, .slice none 0 0]
  have HCE := Lib.hid (fun X (hX : Below w.heap.size w X) j (hj : j < n) => (hX.cell (p := ⟨b, off + j, none⟩) hb).trans (hcell j hj))
  have hc0 := HCE.out _ hkw1 0 (by omega)
  rw [Nat.add_zero, h0] at hc0
  have HRG := Lib.hid (fun X (hX : Below w.heap.size w X) => (hr.below hX).more hX.size)
  have HX := Lib.hid hx
  have HKW := Lib.hid hkw
  have HG4 := Lib.hid hg4
  have HG2 := Lib.hid hg2
  clear hg4 hg2
  have hn0 : (0 : Int) < (n : Int) := by omega
  obtain ⟨lop, hip⟩ := gotW_bounds hx n 1
  rw [hp] at lop hip
  obtain ⟨loq, hiq⟩ := gotW_bounds hx n 3
  rw [hq] at loq hiq
  have wq : IntKind.u16.wrap q = q := IntWalk.u16_in _ (by omega)
  have C1 := Lib.hid (fun W (hW : Below w.heap.size w W) => rword_any (some ⟨b, off, none⟩) n c zs 1 p W hp (HRG.out W hW) hx (by omega))
  have C3 := Lib.hid (fun W (hW : Below w.heap.size w W) => rword_any (some ⟨b, off, none⟩) n c zs 3 q W hq (HRG.out W hW) hx (by omega))
  clear hp hq
  subst hv
  have H0 := Lib.hid h0
  clear hr hcell hkw hkw1 h0
  go_enter Try.func36, Try.ntmps36
  go_upto_region 3 with fail
  obtain ⟨w3, hw3, G4, G2, GB⟩ := named0 HG4 HG2 HKW
  have hz3 : w.heap.size + 1 < w3.heap.size := G4.out.lt
  obtain ⟨hs0, hs1, hs2, hs3, hs4, hs5, hs6, hs7, hs8, hs9, hs10, hs11, hs12, hs13⟩ := cells14 G4.out
  obtain ⟨hp0, hp1, hp2, hp3, hp4, hp5, hp6, hp7, hp8, hp9, hp10, hp11, hp12, hp13⟩ := cells14 G2.out
  obtain ⟨hf0, hf1, hf2, hf3, hf4, hf5, hf6, hf7, hf8, hf9, hf10, hf11, hf12, hf13⟩ := frozen14 G4.out
  obtain ⟨hg0, hg1, hg2, hg3, hg4, hg5, hg6, hg7, hg8, hg9, hg10, hg11, hg12, hg13⟩ := frozen14 G2.out
  rw [hw3]
  clear hw3 hc0 HG4 HG2 HKW
  go_wp2_with (first
    | (go_at_call 63
       (with_reducible refine (C1.out _ ?_).mono ?_)
       · first | exact GB.out | exact below_drewN GB.out _ | exact below_drewN (below_drewN GB.out _) _ | exact (below_drewN GB.out _).setCell (p := ⟨w.heap.size + 1, 4, none⟩) (Nat.le_succ _) _
       rintro e w' ⟨rfl, d1, rfl⟩)
    | (go_at_call 63
       (with_reducible refine (C3.out _ ?_).mono ?_)
       · first | exact GB.out | exact below_drewN GB.out _ | exact below_drewN (below_drewN GB.out _) _ | exact (below_drewN GB.out _).setCell (p := ⟨w.heap.size + 1, 4, none⟩) (Nat.le_succ _) _
       rintro e w' ⟨rfl, d3, rfl⟩))
  obtain ⟨X, hX⟩ : ∃ X, ((((w3.drewN d1).setCell ⟨w.heap.size + 1, 4, none⟩ (.int .i64 p)).drewN d3).setCell ⟨w.heap.size + 1, 6, none⟩ (.int .u16 1)) = X := ⟨_, rfl⟩
  have hx0 := (whole_far (show WholeV (((w3.drewN d1).setCell ⟨w.heap.size + 1, 4, none⟩ (.int .i64 p)).drewN d3) w.heap.size 28 [.int .i64 0, .int .i64 0, .slice none 0 0, .slice none 0 0, .int .i64 0, .int .i64 0, .int .u16 0, .int .u16 0, .int .u16 0, .int .i64 0, .int .i64 0, .bool false, .int .i64 0, .slice none 0 0] from whole_far (G2.out.drewN d1) (show w.heap.size ≠ w.heap.size + 1 by omega) 4 (.int .i64 p)) (show w.heap.size ≠ w.heap.size + 1 by omega) 6 (.int .u16 1))
  have hxb := ((below_drewN ((below_drewN GB.out d1).setCell (p := ⟨w.heap.size + 1, 4, none⟩) (Nat.le_succ _) (.int .i64 p)) d3).setCell (p := ⟨w.heap.size + 1, 6, none⟩) (Nat.le_succ _) (.int .u16 1))
  rw [hX] at hx0 hxb
  rw [hX]
  exact end14 Try.results36 hx0 rfl hxb (Nat.le_refl _) rfl rfl fun w9 hbb hk => ⟨rfl, hbb⟩

set_option maxRecDepth 100000 in
set_option maxHeartbeats 4000000 in
theorem hrd_5_no (b off n c : Nat) (zs : List Int) (m : Int) (p q : Int) (w : World) (hr : Row .u8 w w.heap.size (some ⟨b, off, none⟩) n zs) (hx : Bytes8 zs) (hn : n ≤ 1000) (h1n : 1 ≤ n) (h0 : zs.getD 0 0 = 5) (hc : n ≤ c) (hp : gotW zs n 1 = p) (hq : gotW zs n 3 = q) (hb5 : ((n : Int) == 5) = true) (hv0 : ¬ q = 0) (hv1 : ¬ q = 65280) :
    Calls Try.prog 36 #[.slice (some ⟨b, off, none⟩) n c, .int .i64 m] w fun e w' => e = .returned (.tuple #[.agg #[.int .i64 5, .int .i64 0, .slice none 0 0, .slice none 0 0, .int .i64 p, .int .i64 0, .int .u16 0, .int .u16 0, .int .u16 0, .int .i64 0, .int .i64 0, .bool false, .int .i64 0, .slice none 0 0], .bool false]) ∧ Below w.heap.size w w' := by
  obtain ⟨b', off', e1, hb, hcell⟩ := hr.2 (by omega)
  injection e1 with e1
  injection e1 with e1 e2
  subst e1 e2
  obtain ⟨hkw1, hkw, hg4, hg2⟩ := box2 w 28 [.int .i64 0, .int .i64 0, .slice none 0 0, .slice none 0 0, .int .i64 0, .int .i64 0, .int .u16 0, .int .u16 0, .int .u16 0, .int .i64 0, .int .i64 0, .bool false, .int .i64 0, .slice none 0 0] [.int .i64 5, .int .i64 0, .slice none 0 0, .slice none 0 0, .int .i64 0, .int .i64 0, .int .u16 0, .int .u16 0, .int .u16 0, .int .i64 0, .int .i64 0, .bool false, .int .i64 0, .slice none 0 0]
  have HCE := Lib.hid (fun X (hX : Below w.heap.size w X) j (hj : j < n) => (hX.cell (p := ⟨b, off + j, none⟩) hb).trans (hcell j hj))
  have hc0 := HCE.out _ hkw1 0 (by omega)
  rw [Nat.add_zero, h0] at hc0
  have HRG := Lib.hid (fun X (hX : Below w.heap.size w X) => (hr.below hX).more hX.size)
  have HX := Lib.hid hx
  have HKW := Lib.hid hkw
  have HG4 := Lib.hid hg4
  have HG2 := Lib.hid hg2
  clear hg4 hg2
  have hn0 : (0 : Int) < (n : Int) := by omega
  obtain ⟨lop, hip⟩ := gotW_bounds hx n 1
  rw [hp] at lop hip
  obtain ⟨loq, hiq⟩ := gotW_bounds hx n 3
  rw [hq] at loq hiq
  have wq : IntKind.u16.wrap q = q := IntWalk.u16_in _ (by omega)
  have C1 := Lib.hid (fun W (hW : Below w.heap.size w W) => rword_any (some ⟨b, off, none⟩) n c zs 1 p W hp (HRG.out W hW) hx (by omega))
  have C3 := Lib.hid (fun W (hW : Below w.heap.size w W) => rword_any (some ⟨b, off, none⟩) n c zs 3 q W hq (HRG.out W hW) hx (by omega))
  clear hp hq
  have hv0b : (q == 0) = false := beq_eq_false_iff_ne.2 hv0
  have hv1b : (q == 65280) = false := beq_eq_false_iff_ne.2 hv1
  have H0 := Lib.hid h0
  clear hr hcell hkw hkw1 h0
  go_enter Try.func36, Try.ntmps36
  go_upto_region 3 with fail
  obtain ⟨w3, hw3, G4, G2, GB⟩ := named0 HG4 HG2 HKW
  have hz3 : w.heap.size + 1 < w3.heap.size := G4.out.lt
  obtain ⟨hs0, hs1, hs2, hs3, hs4, hs5, hs6, hs7, hs8, hs9, hs10, hs11, hs12, hs13⟩ := cells14 G4.out
  obtain ⟨hp0, hp1, hp2, hp3, hp4, hp5, hp6, hp7, hp8, hp9, hp10, hp11, hp12, hp13⟩ := cells14 G2.out
  obtain ⟨hf0, hf1, hf2, hf3, hf4, hf5, hf6, hf7, hf8, hf9, hf10, hf11, hf12, hf13⟩ := frozen14 G4.out
  obtain ⟨hg0, hg1, hg2, hg3, hg4, hg5, hg6, hg7, hg8, hg9, hg10, hg11, hg12, hg13⟩ := frozen14 G2.out
  rw [hw3]
  clear hw3 hc0 HG4 HG2 HKW
  go_wp2_with (first
    | (go_at_call 63
       (with_reducible refine (C1.out _ ?_).mono ?_)
       · first | exact GB.out | exact below_drewN GB.out _ | exact below_drewN (below_drewN GB.out _) _ | exact (below_drewN GB.out _).setCell (p := ⟨w.heap.size + 1, 4, none⟩) (Nat.le_succ _) _
       rintro e w' ⟨rfl, d1, rfl⟩)
    | (go_at_call 63
       (with_reducible refine (C3.out _ ?_).mono ?_)
       · first | exact GB.out | exact below_drewN GB.out _ | exact below_drewN (below_drewN GB.out _) _ | exact (below_drewN GB.out _).setCell (p := ⟨w.heap.size + 1, 4, none⟩) (Nat.le_succ _) _
       rintro e w' ⟨rfl, d3, rfl⟩))
  obtain ⟨X, hX⟩ : ∃ X, (((w3.drewN d1).setCell ⟨w.heap.size + 1, 4, none⟩ (.int .i64 p)).drewN d3) = X := ⟨_, rfl⟩
  have hx0 := (show WholeV (((w3.drewN d1).setCell ⟨w.heap.size + 1, 4, none⟩ (.int .i64 p)).drewN d3) w.heap.size 28 [.int .i64 0, .int .i64 0, .slice none 0 0, .slice none 0 0, .int .i64 0, .int .i64 0, .int .u16 0, .int .u16 0, .int .u16 0, .int .i64 0, .int .i64 0, .bool false, .int .i64 0, .slice none 0 0] from whole_far (G2.out.drewN d1) (show w.heap.size ≠ w.heap.size + 1 by omega) 4 (.int .i64 p))
  have hxb := (below_drewN ((below_drewN GB.out d1).setCell (p := ⟨w.heap.size + 1, 4, none⟩) (Nat.le_succ _) (.int .i64 p)) d3)
  rw [hX] at hx0 hxb
  rw [hX]
  exact end14 Try.results36 hx0 rfl hxb (Nat.le_refl _) rfl rfl fun w9 hbb hk => ⟨rfl, hbb⟩

set_option maxRecDepth 100000 in
set_option maxHeartbeats 4000000 in
theorem hrd_5_len1 (b off n c : Nat) (zs : List Int) (m : Int) (p q : Int) (w : World) (hr : Row .u8 w w.heap.size (some ⟨b, off, none⟩) n zs) (hx : Bytes8 zs) (hn : n ≤ 1000) (h1n : 1 ≤ n) (h0 : zs.getD 0 0 = 5) (hc : n ≤ c) (hp : gotW zs n 1 = p) (hq : gotW zs n 3 = q) (hb5 : ((n : Int) == 5) = false) (hv : q = 65280) :
    Calls Try.prog 36 #[.slice (some ⟨b, off, none⟩) n c, .int .i64 m] w fun e w' => e = .returned (.tuple #[.agg #[.int .i64 5, .int .i64 0, .slice none 0 0, .slice none 0 0, .int .i64 p, .int .i64 0, .int .u16 1, .int .u16 0, .int .u16 0, .int .i64 0, .int .i64 0, .bool false, .int .i64 0, .slice none 0 0], .bool false]) ∧ Below w.heap.size w w' := by
  obtain ⟨b', off', e1, hb, hcell⟩ := hr.2 (by omega)
  injection e1 with e1
  injection e1 with e1 e2
  subst e1 e2
  obtain ⟨hkw1, hkw, hg4, hg2⟩ := box2 w 28 [.int .i64 0, .int .i64 0, .slice none 0 0, .slice none 0 0, .int .i64 0, .int .i64 0, .int .u16 0, .int .u16 0, .int .u16 0, .int .i64 0, .int .i64 0, .bool false, .int .i64 0, .slice none 0 0] [.int .i64 5, .int .i64 0, .slice none 0 0, .slice none 0 0, .int .i64 0, .int .i64 0, .int .u16 0, .int .u16 0, .int .u16 0, .int .i64 0, .int .i64 0, .bool false, .int .i64 0, .slice none 0 0]
  have HCE := Lib.hid (fun X (hX : Below w.heap.size w X) j (hj : j < n) => (hX.cell (p := ⟨b, off + j, none⟩) hb).trans (hcell j hj))
  have hc0 := HCE.out _ hkw1 0 (by omega)
  rw [Nat.add_zero, h0] at hc0
  have HRG := Lib.hid (fun X (hX : Below w.heap.size w X) => (hr.below hX).more hX.size)
  have HX := Lib.hid hx
  have HKW := Lib.hid hkw
  have HG4 := Lib.hid hg4
  have HG2 := Lib.hid hg2
  clear hg4 hg2
  have hn0 : (0 : Int) < (n : Int) := by omega
  obtain ⟨lop, hip⟩ := gotW_bounds hx n 1
  rw [hp] at lop hip
  obtain ⟨loq, hiq⟩ := gotW_bounds hx n 3
  rw [hq] at loq hiq
  have wq : IntKind.u16.wrap q = q := IntWalk.u16_in _ (by omega)
  have C1 := Lib.hid (fun W (hW : Below w.heap.size w W) => rword_any (some ⟨b, off, none⟩) n c zs 1 p W hp (HRG.out W hW) hx (by omega))
  have C3 := Lib.hid (fun W (hW : Below w.heap.size w W) => rword_any (some ⟨b, off, none⟩) n c zs 3 q W hq (HRG.out W hW) hx (by omega))
  clear hp hq
  subst hv
  have H0 := Lib.hid h0
  clear hr hcell hkw hkw1 h0
  go_enter Try.func36, Try.ntmps36
  go_upto_region 3 with fail
  obtain ⟨w3, hw3, G4, G2, GB⟩ := named0 HG4 HG2 HKW
  have hz3 : w.heap.size + 1 < w3.heap.size := G4.out.lt
  obtain ⟨hs0, hs1, hs2, hs3, hs4, hs5, hs6, hs7, hs8, hs9, hs10, hs11, hs12, hs13⟩ := cells14 G4.out
  obtain ⟨hp0, hp1, hp2, hp3, hp4, hp5, hp6, hp7, hp8, hp9, hp10, hp11, hp12, hp13⟩ := cells14 G2.out
  obtain ⟨hf0, hf1, hf2, hf3, hf4, hf5, hf6, hf7, hf8, hf9, hf10, hf11, hf12, hf13⟩ := frozen14 G4.out
  obtain ⟨hg0, hg1, hg2, hg3, hg4, hg5, hg6, hg7, hg8, hg9, hg10, hg11, hg12, hg13⟩ := frozen14 G2.out
  rw [hw3]
  clear hw3 hc0 HG4 HG2 HKW
  go_wp2_with (first
    | (go_at_call 63
       (with_reducible refine (C1.out _ ?_).mono ?_)
       · first | exact GB.out | exact below_drewN GB.out _ | exact below_drewN (below_drewN GB.out _) _ | exact (below_drewN GB.out _).setCell (p := ⟨w.heap.size + 1, 4, none⟩) (Nat.le_succ _) _
       rintro e w' ⟨rfl, d1, rfl⟩)
    | (go_at_call 63
       (with_reducible refine (C3.out _ ?_).mono ?_)
       · first | exact GB.out | exact below_drewN GB.out _ | exact below_drewN (below_drewN GB.out _) _ | exact (below_drewN GB.out _).setCell (p := ⟨w.heap.size + 1, 4, none⟩) (Nat.le_succ _) _
       rintro e w' ⟨rfl, d3, rfl⟩))
  obtain ⟨X, hX⟩ : ∃ X, ((((w3.drewN d1).setCell ⟨w.heap.size + 1, 4, none⟩ (.int .i64 p)).drewN d3).setCell ⟨w.heap.size + 1, 6, none⟩ (.int .u16 1)) = X := ⟨_, rfl⟩
  have hx0 := (whole_far (show WholeV (((w3.drewN d1).setCell ⟨w.heap.size + 1, 4, none⟩ (.int .i64 p)).drewN d3) w.heap.size 28 [.int .i64 0, .int .i64 0, .slice none 0 0, .slice none 0 0, .int .i64 0, .int .i64 0, .int .u16 0, .int .u16 0, .int .u16 0, .int .i64 0, .int .i64 0, .bool false, .int .i64 0, .slice none 0 0] from whole_far (G2.out.drewN d1) (show w.heap.size ≠ w.heap.size + 1 by omega) 4 (.int .i64 p)) (show w.heap.size ≠ w.heap.size + 1 by omega) 6 (.int .u16 1))
  have hxb := ((below_drewN ((below_drewN GB.out d1).setCell (p := ⟨w.heap.size + 1, 4, none⟩) (Nat.le_succ _) (.int .i64 p)) d3).setCell (p := ⟨w.heap.size + 1, 6, none⟩) (Nat.le_succ _) (.int .u16 1))
  rw [hX] at hx0 hxb
  rw [hX]
  exact end14 Try.results36 hx0 rfl hxb (Nat.le_refl _) rfl rfl fun w9 hbb hk => ⟨rfl, hbb⟩

set_option maxRecDepth 100000 in
set_option maxHeartbeats 4000000 in
theorem hrd_5_len0 (b off n c : Nat) (zs : List Int) (m : Int) (p q : Int) (w : World) (hr : Row .u8 w w.heap.size (some ⟨b, off, none⟩) n zs) (hx : Bytes8 zs) (hn : n ≤ 1000) (h1n : 1 ≤ n) (h0 : zs.getD 0 0 = 5) (hc : n ≤ c) (hp : gotW zs n 1 = p) (hq : gotW zs n 3 = q) (hb5 : ((n : Int) == 5) = false) (hv1 : ¬ q = 65280) :
    Calls Try.prog 36 #[.slice (some ⟨b, off, none⟩) n c, .int .i64 m] w fun e w' => e = .returned (.tuple #[.agg #[.int .i64 5, .int .i64 0, .slice none 0 0, .slice none 0 0, .int .i64 p, .int .i64 0, .int .u16 0, .int .u16 0, .int .u16 0, .int .i64 0, .int .i64 0, .bool false, .int .i64 0, .slice none 0 0], .bool false]) ∧ Below w.heap.size w w' := by
  obtain ⟨b', off', e1, hb, hcell⟩ := hr.2 (by omega)
  injection e1 with e1
  injection e1 with e1 e2
  subst e1 e2
  obtain ⟨hkw1, hkw, hg4, hg2⟩ := box2 w 28 [.int .i64 0, .int .i64 0, .slice none 0 0, .slice none 0 0, .int .i64 0, .int .i64 0, .int .u16 0, .int .u16 0, .int .u16 0, .int .i64 0, .int .i64 0, .bool false, .int .i64 0, .slice none 0 0] [.int .i64 5, .int .i64 0, .slice none 0 0, .slice none 0 0, .int .i64 0, .int .i64 0, .int .u16 0, .int .u16 0, .int .u16 0, .int .i64 0, .int .i64 0, .bool false, .int .i64 0, .slice none 0 0]
  have HCE := Lib.hid (fun X (hX : Below w.heap.size w X) j (hj : j < n) => (hX.cell (p := ⟨b, off + j, none⟩) hb).trans (hcell j hj))
  have hc0 := HCE.out _ hkw1 0 (by omega)
  rw [Nat.add_zero, h0] at hc0
  have HRG := Lib.hid (fun X (hX : Below w.heap.size w X) => (hr.below hX).more hX.size)
  have HX := Lib.hid hx
  have HKW := Lib.hid hkw
  have HG4 := Lib.hid hg4
  have HG2 := Lib.hid hg2
  clear hg4 hg2
  have hn0 : (0 : Int) < (n : Int) := by omega
  obtain ⟨lop, hip⟩ := gotW_bounds hx n 1
  rw [hp] at lop hip
  obtain ⟨loq, hiq⟩ := gotW_bounds hx n 3
  rw [hq] at loq hiq
  have wq : IntKind.u16.wrap q = q := IntWalk.u16_in _ (by omega)
  have C1 := Lib.hid (fun W (hW : Below w.heap.size w W) => rword_any (some ⟨b, off, none⟩) n c zs 1 p W hp (HRG.out W hW) hx (by omega))
  have C3 := Lib.hid (fun W (hW : Below w.heap.size w W) => rword_any (some ⟨b, off, none⟩) n c zs 3 q W hq (HRG.out W hW) hx (by omega))
  clear hp hq
  have hv1b : (q == 65280) = false := beq_eq_false_iff_ne.2 hv1
  have H0 := Lib.hid h0
  clear hr hcell hkw hkw1 h0
  go_enter Try.func36, Try.ntmps36
  go_upto_region 3 with fail
  obtain ⟨w3, hw3, G4, G2, GB⟩ := named0 HG4 HG2 HKW
  have hz3 : w.heap.size + 1 < w3.heap.size := G4.out.lt
  obtain ⟨hs0, hs1, hs2, hs3, hs4, hs5, hs6, hs7, hs8, hs9, hs10, hs11, hs12, hs13⟩ := cells14 G4.out
  obtain ⟨hp0, hp1, hp2, hp3, hp4, hp5, hp6, hp7, hp8, hp9, hp10, hp11, hp12, hp13⟩ := cells14 G2.out
  obtain ⟨hf0, hf1, hf2, hf3, hf4, hf5, hf6, hf7, hf8, hf9, hf10, hf11, hf12, hf13⟩ := frozen14 G4.out
  obtain ⟨hg0, hg1, hg2, hg3, hg4, hg5, hg6, hg7, hg8, hg9, hg10, hg11, hg12, hg13⟩ := frozen14 G2.out
  rw [hw3]
  clear hw3 hc0 HG4 HG2 HKW
  go_wp2_with (first
    | (go_at_call 63
       (with_reducible refine (C1.out _ ?_).mono ?_)
       · first | exact GB.out | exact below_drewN GB.out _ | exact below_drewN (below_drewN GB.out _) _ | exact (below_drewN GB.out _).setCell (p := ⟨w.heap.size + 1, 4, none⟩) (Nat.le_succ _) _
       rintro e w' ⟨rfl, d1, rfl⟩)
    | (go_at_call 63
       (with_reducible refine (C3.out _ ?_).mono ?_)
       · first | exact GB.out | exact below_drewN GB.out _ | exact below_drewN (below_drewN GB.out _) _ | exact (below_drewN GB.out _).setCell (p := ⟨w.heap.size + 1, 4, none⟩) (Nat.le_succ _) _
       rintro e w' ⟨rfl, d3, rfl⟩))
  obtain ⟨X, hX⟩ : ∃ X, (((w3.drewN d1).setCell ⟨w.heap.size + 1, 4, none⟩ (.int .i64 p)).drewN d3) = X := ⟨_, rfl⟩
  have hx0 := (show WholeV (((w3.drewN d1).setCell ⟨w.heap.size + 1, 4, none⟩ (.int .i64 p)).drewN d3) w.heap.size 28 [.int .i64 0, .int .i64 0, .slice none 0 0, .slice none 0 0, .int .i64 0, .int .i64 0, .int .u16 0, .int .u16 0, .int .u16 0, .int .i64 0, .int .i64 0, .bool false, .int .i64 0, .slice none 0 0] from whole_far (G2.out.drewN d1) (show w.heap.size ≠ w.heap.size + 1 by omega) 4 (.int .i64 p))
  have hxb := (below_drewN ((below_drewN GB.out d1).setCell (p := ⟨w.heap.size + 1, 4, none⟩) (Nat.le_succ _) (.int .i64 p)) d3)
  rw [hX] at hx0 hxb
  rw [hX]
  exact end14 Try.results36 hx0 rfl hxb (Nat.le_refl _) rfl rfl fun w9 hbb hk => ⟨rfl, hbb⟩

set_option maxRecDepth 100000 in
set_option maxHeartbeats 4000000 in
theorem hrd_no (b off n c : Nat) (zs : List Int) (m : Int) (f : Int) (bb : Bool) (w : World) (hr : Row .u8 w w.heap.size (some ⟨b, off, none⟩) n zs) (hx : Bytes8 zs) (hn : n ≤ 1000) (h1n : 1 ≤ n) (h0 : zs.getD 0 0 = f) (hc : n ≤ c) (hf : NoFn f) (hf0 : 0 ≤ f) (hf1 : f < 128) (hb5 : ((n : Int) == 5) = bb) :
    Calls Try.prog 36 #[.slice (some ⟨b, off, none⟩) n c, .int .i64 m] w fun e w' => e = .returned (.tuple #[.agg #[.int .i64 f, .int .i64 0, .slice none 0 0, .slice none 0 0, .int .i64 0, .int .i64 0, .int .u16 0, .int .u16 0, .int .u16 0, .int .i64 0, .int .i64 0, .bool false, .int .i64 0, .slice none 0 0], .bool bb]) ∧ Below w.heap.size w w' := by
  obtain ⟨b', off', e1, hb, hcell⟩ := hr.2 (by omega)
  injection e1 with e1
  injection e1 with e1 e2
  subst e1 e2
  obtain ⟨hkw1, hkw, hg4, hg2⟩ := box2 w 28 [.int .i64 0, .int .i64 0, .slice none 0 0, .slice none 0 0, .int .i64 0, .int .i64 0, .int .u16 0, .int .u16 0, .int .u16 0, .int .i64 0, .int .i64 0, .bool false, .int .i64 0, .slice none 0 0] [.int .i64 f, .int .i64 0, .slice none 0 0, .slice none 0 0, .int .i64 0, .int .i64 0, .int .u16 0, .int .u16 0, .int .u16 0, .int .i64 0, .int .i64 0, .bool false, .int .i64 0, .slice none 0 0]
  have HCE := Lib.hid (fun X (hX : Below w.heap.size w X) j (hj : j < n) => (hX.cell (p := ⟨b, off + j, none⟩) hb).trans (hcell j hj))
  have hc0 := HCE.out _ hkw1 0 (by omega)
  rw [Nat.add_zero, h0] at hc0
  have HRG := Lib.hid (fun X (hX : Below w.heap.size w X) => (hr.below hX).more hX.size)
  have HX := Lib.hid hx
  have HKW := Lib.hid hkw
  have HG4 := Lib.hid hg4
  have HG2 := Lib.hid hg2
  clear hg4 hg2
  have hn0 : (0 : Int) < (n : Int) := by omega
  obtain ⟨f1, f2, f3, f4, f5, f6, f15, f16, f22, f23, f43⟩ := hf
  have wf : IntKind.i64.wrap f = f := IntWalk.i64_in _ (by omega)
  have H0 := Lib.hid h0
  clear hr hcell hkw hkw1 h0
  go_enter Try.func36, Try.ntmps36
  go_upto_region 3 with fail
  obtain ⟨w3, hw3, G4, G2, GB⟩ := named0 HG4 HG2 HKW
  have hz3 : w.heap.size + 1 < w3.heap.size := G4.out.lt
  obtain ⟨hs0, hs1, hs2, hs3, hs4, hs5, hs6, hs7, hs8, hs9, hs10, hs11, hs12, hs13⟩ := cells14 G4.out
  obtain ⟨hp0, hp1, hp2, hp3, hp4, hp5, hp6, hp7, hp8, hp9, hp10, hp11, hp12, hp13⟩ := cells14 G2.out
  obtain ⟨hf0, hf1, hf2, hf3, hf4, hf5, hf6, hf7, hf8, hf9, hf10, hf11, hf12, hf13⟩ := frozen14 G4.out
  obtain ⟨hg0, hg1, hg2, hg3, hg4, hg5, hg6, hg7, hg8, hg9, hg10, hg11, hg12, hg13⟩ := frozen14 G2.out
  rw [hw3]
  clear hw3 hc0 HG4 HG2 HKW
  go_wp2_with fail
  obtain ⟨X, hX⟩ : ∃ X, w3 = X := ⟨_, rfl⟩
  have hx0 := G2.out
  have hxb := GB.out
  rw [hX] at hx0 hxb
  rw [hX]
  exact end14 Try.results36 hx0 rfl hxb (Nat.le_refl _) rfl rfl fun w9 hbb hk => ⟨rfl, hbb⟩

set_option maxRecDepth 100000 in
set_option maxHeartbeats 4000000 in
theorem hrd_few_1 (b off n c : Nat) (zs : List Int) (m : Int) (w : World) (hr : Row .u8 w w.heap.size (some ⟨b, off, none⟩) n zs) (hx : Bytes8 zs) (hn : n ≤ 1000) (h1n : 1 ≤ n) (h0 : zs.getD 0 0 = 1) (hc : n ≤ c) (hfew : n = 1) :
    Calls Try.prog 36 #[.slice (some ⟨b, off, none⟩) n c, .int .i64 m] w fun e w' => e = .returned (.tuple #[.agg #[.int .i64 1, .int .i64 0, .slice none 0 0, .slice none 0 0, .int .i64 0, .int .i64 0, .int .u16 0, .int .u16 0, .int .u16 0, .int .i64 0, .int .i64 0, .bool false, .int .i64 0, .slice none 0 0], .bool false]) ∧ Below w.heap.size w w' := by
  obtain ⟨b', off', e1, hb, hcell⟩ := hr.2 (by omega)
  injection e1 with e1
  injection e1 with e1 e2
  subst e1 e2
  obtain ⟨hkw1, hkw, hg4, hg2⟩ := box2 w 28 [.int .i64 0, .int .i64 0, .slice none 0 0, .slice none 0 0, .int .i64 0, .int .i64 0, .int .u16 0, .int .u16 0, .int .u16 0, .int .i64 0, .int .i64 0, .bool false, .int .i64 0, .slice none 0 0] [.int .i64 1, .int .i64 0, .slice none 0 0, .slice none 0 0, .int .i64 0, .int .i64 0, .int .u16 0, .int .u16 0, .int .u16 0, .int .i64 0, .int .i64 0, .bool false, .int .i64 0, .slice none 0 0]
  have HCE := Lib.hid (fun X (hX : Below w.heap.size w X) j (hj : j < n) => (hX.cell (p := ⟨b, off + j, none⟩) hb).trans (hcell j hj))
  have hc0 := HCE.out _ hkw1 0 (by omega)
  rw [Nat.add_zero, h0] at hc0
  have HRG := Lib.hid (fun X (hX : Below w.heap.size w X) => (hr.below hX).more hX.size)
  have HX := Lib.hid hx
  have HKW := Lib.hid hkw
  have HG4 := Lib.hid hg4
  have HG2 := Lib.hid hg2
  clear hg4 hg2
  have hn0 : (0 : Int) < (n : Int) := by omega
  have hl2 : (n : Int) < 2 := by omega
  clear hfew
  have H0 := Lib.hid h0
  clear hr hcell hkw hkw1 h0
  go_enter Try.func36, Try.ntmps36
  go_upto_region 3 with fail
  obtain ⟨w3, hw3, G4, G2, GB⟩ := named0 HG4 HG2 HKW
  have hz3 : w.heap.size + 1 < w3.heap.size := G4.out.lt
  obtain ⟨hs0, hs1, hs2, hs3, hs4, hs5, hs6, hs7, hs8, hs9, hs10, hs11, hs12, hs13⟩ := cells14 G4.out
  obtain ⟨hp0, hp1, hp2, hp3, hp4, hp5, hp6, hp7, hp8, hp9, hp10, hp11, hp12, hp13⟩ := cells14 G2.out
  obtain ⟨hf0, hf1, hf2, hf3, hf4, hf5, hf6, hf7, hf8, hf9, hf10, hf11, hf12, hf13⟩ := frozen14 G4.out
  obtain ⟨hg0, hg1, hg2, hg3, hg4, hg5, hg6, hg7, hg8, hg9, hg10, hg11, hg12, hg13⟩ := frozen14 G2.out
  rw [hw3]
  clear hw3 hc0 HG4 HG2 HKW
  go_wp2_with fail
  obtain ⟨X, hX⟩ : ∃ X, w3 = X := ⟨_, rfl⟩
  have hx0 := G2.out
  have hxb := GB.out
  rw [hX] at hx0 hxb
  rw [hX]
  exact end14 Try.results36 hx0 rfl hxb (Nat.le_refl _) rfl rfl fun w9 hbb hk => ⟨rfl, hbb⟩

set_option maxRecDepth 100000 in
set_option maxHeartbeats 4000000 in
theorem hrd_len_1 (b off n c : Nat) (zs : List Int) (m : Int) (t : Int) (w : World) (hr : Row .u8 w w.heap.size (some ⟨b, off, none⟩) n zs) (hx : Bytes8 zs) (hn : n ≤ 1000) (h1n : 1 ≤ n) (h0 : zs.getD 0 0 = 1) (hc : n ≤ c) (h2n : 2 ≤ n) (hu : zs.getD 1 0 = t) (hne : t ≠ (n : Int) - 2) :
    Calls Try.prog 36 #[.slice (some ⟨b, off, none⟩) n c, .int .i64 m] w fun e w' => e = .returned (.tuple #[.agg #[.int .i64 1, .int .i64 0, .slice none 0 0, .slice none 0 0, .int .i64 0, .int .i64 0, .int .u16 0, .int .u16 0, .int .u16 0, .int .i64 0, .int .i64 0, .bool false, .int .i64 0, .slice none 0 0], .bool false]) ∧ Below w.heap.size w w' := by
  obtain ⟨b', off', e1, hb, hcell⟩ := hr.2 (by omega)
  injection e1 with e1
  injection e1 with e1 e2
  subst e1 e2
  obtain ⟨hkw1, hkw, hg4, hg2⟩ := box2 w 28 [.int .i64 0, .int .i64 0, .slice none 0 0, .slice none 0 0, .int .i64 0, .int .i64 0, .int .u16 0, .int .u16 0, .int .u16 0, .int .i64 0, .int .i64 0, .bool false, .int .i64 0, .slice none 0 0] [.int .i64 1, .int .i64 0, .slice none 0 0, .slice none 0 0, .int .i64 0, .int .i64 0, .int .u16 0, .int .u16 0, .int .u16 0, .int .i64 0, .int .i64 0, .bool false, .int .i64 0, .slice none 0 0]
  have HCE := Lib.hid (fun X (hX : Below w.heap.size w X) j (hj : j < n) => (hX.cell (p := ⟨b, off + j, none⟩) hb).trans (hcell j hj))
  have hc0 := HCE.out _ hkw1 0 (by omega)
  rw [Nat.add_zero, h0] at hc0
  have HRG := Lib.hid (fun X (hX : Below w.heap.size w X) => (hr.below hX).more hX.size)
  have HX := Lib.hid hx
  have HKW := Lib.hid hkw
  have HG4 := Lib.hid hg4
  have HG2 := Lib.hid hg2
  clear hg4 hg2
  have hn0 : (0 : Int) < (n : Int) := by omega
  have hl2 : ¬ (n : Int) < 2 := by omega
  have hn1 : (1 : Int) < (n : Int) := by omega
  have wti : IntKind.i64.wrap t = t := IntWalk.i64_in _ (by have := hx.at_ 1; change 0 ≤ zs.getD 1 0 ∧ zs.getD 1 0 ≤ 255 at this; omega)
  have HC1 := Lib.hid (fun X (hX : Below w.heap.size w X) => (HCE.out X hX 1 (by omega)).trans (by rw [hu]))
  clear hu
  have H0 := Lib.hid h0
  clear hr hcell hkw hkw1 h0
  go_enter Try.func36, Try.ntmps36
  go_upto_region 3 with fail
  obtain ⟨w3, hw3, G4, G2, GB⟩ := named0 HG4 HG2 HKW
  have hz3 : w.heap.size + 1 < w3.heap.size := G4.out.lt
  obtain ⟨hs0, hs1, hs2, hs3, hs4, hs5, hs6, hs7, hs8, hs9, hs10, hs11, hs12, hs13⟩ := cells14 G4.out
  obtain ⟨hp0, hp1, hp2, hp3, hp4, hp5, hp6, hp7, hp8, hp9, hp10, hp11, hp12, hp13⟩ := cells14 G2.out
  obtain ⟨hf0, hf1, hf2, hf3, hf4, hf5, hf6, hf7, hf8, hf9, hf10, hf11, hf12, hf13⟩ := frozen14 G4.out
  obtain ⟨hg0, hg1, hg2, hg3, hg4, hg5, hg6, hg7, hg8, hg9, hg10, hg11, hg12, hg13⟩ := frozen14 G2.out
  rw [hw3]
  clear hw3 hc0 HG4 HG2 HKW
  have hcw : w3.cell? ⟨b, off + 1, none⟩ = some (.int .u8 t) := HC1.out w3 GB.out
  go_wp2_with fail
  obtain ⟨X, hX⟩ : ∃ X, w3 = X := ⟨_, rfl⟩
  have hx0 := G2.out
  have hxb := GB.out
  rw [hX] at hx0 hxb
  rw [hX]
  exact end14 Try.results36 hx0 rfl hxb (Nat.le_refl _) rfl rfl fun w9 hbb hk => ⟨rfl, hbb⟩

set_option maxRecDepth 100000 in
set_option maxHeartbeats 4000000 in
theorem hrd_few_2 (b off n c : Nat) (zs : List Int) (m : Int) (w : World) (hr : Row .u8 w w.heap.size (some ⟨b, off, none⟩) n zs) (hx : Bytes8 zs) (hn : n ≤ 1000) (h1n : 1 ≤ n) (h0 : zs.getD 0 0 = 2) (hc : n ≤ c) (hfew : n = 1) :
    Calls Try.prog 36 #[.slice (some ⟨b, off, none⟩) n c, .int .i64 m] w fun e w' => e = .returned (.tuple #[.agg #[.int .i64 2, .int .i64 0, .slice none 0 0, .slice none 0 0, .int .i64 0, .int .i64 0, .int .u16 0, .int .u16 0, .int .u16 0, .int .i64 0, .int .i64 0, .bool false, .int .i64 0, .slice none 0 0], .bool false]) ∧ Below w.heap.size w w' := by
  obtain ⟨b', off', e1, hb, hcell⟩ := hr.2 (by omega)
  injection e1 with e1
  injection e1 with e1 e2
  subst e1 e2
  obtain ⟨hkw1, hkw, hg4, hg2⟩ := box2 w 28 [.int .i64 0, .int .i64 0, .slice none 0 0, .slice none 0 0, .int .i64 0, .int .i64 0, .int .u16 0, .int .u16 0, .int .u16 0, .int .i64 0, .int .i64 0, .bool false, .int .i64 0, .slice none 0 0] [.int .i64 2, .int .i64 0, .slice none 0 0, .slice none 0 0, .int .i64 0, .int .i64 0, .int .u16 0, .int .u16 0, .int .u16 0, .int .i64 0, .int .i64 0, .bool false, .int .i64 0, .slice none 0 0]
  have HCE := Lib.hid (fun X (hX : Below w.heap.size w X) j (hj : j < n) => (hX.cell (p := ⟨b, off + j, none⟩) hb).trans (hcell j hj))
  have hc0 := HCE.out _ hkw1 0 (by omega)
  rw [Nat.add_zero, h0] at hc0
  have HRG := Lib.hid (fun X (hX : Below w.heap.size w X) => (hr.below hX).more hX.size)
  have HX := Lib.hid hx
  have HKW := Lib.hid hkw
  have HG4 := Lib.hid hg4
  have HG2 := Lib.hid hg2
  clear hg4 hg2
  have hn0 : (0 : Int) < (n : Int) := by omega
  have hl2 : (n : Int) < 2 := by omega
  clear hfew
  have H0 := Lib.hid h0
  clear hr hcell hkw hkw1 h0
  go_enter Try.func36, Try.ntmps36
  go_upto_region 3 with fail
  obtain ⟨w3, hw3, G4, G2, GB⟩ := named0 HG4 HG2 HKW
  have hz3 : w.heap.size + 1 < w3.heap.size := G4.out.lt
  obtain ⟨hs0, hs1, hs2, hs3, hs4, hs5, hs6, hs7, hs8, hs9, hs10, hs11, hs12, hs13⟩ := cells14 G4.out
  obtain ⟨hp0, hp1, hp2, hp3, hp4, hp5, hp6, hp7, hp8, hp9, hp10, hp11, hp12, hp13⟩ := cells14 G2.out
  obtain ⟨hf0, hf1, hf2, hf3, hf4, hf5, hf6, hf7, hf8, hf9, hf10, hf11, hf12, hf13⟩ := frozen14 G4.out
  obtain ⟨hg0, hg1, hg2, hg3, hg4, hg5, hg6, hg7, hg8, hg9, hg10, hg11, hg12, hg13⟩ := frozen14 G2.out
  rw [hw3]
  clear hw3 hc0 HG4 HG2 HKW
  go_wp2_with fail
  obtain ⟨X, hX⟩ : ∃ X, w3 = X := ⟨_, rfl⟩
  have hx0 := G2.out
  have hxb := GB.out
  rw [hX] at hx0 hxb
  rw [hX]
  exact end14 Try.results36 hx0 rfl hxb (Nat.le_refl _) rfl rfl fun w9 hbb hk => ⟨rfl, hbb⟩

set_option maxRecDepth 100000 in
set_option maxHeartbeats 4000000 in
theorem hrd_len_2 (b off n c : Nat) (zs : List Int) (m : Int) (t : Int) (w : World) (hr : Row .u8 w w.heap.size (some ⟨b, off, none⟩) n zs) (hx : Bytes8 zs) (hn : n ≤ 1000) (h1n : 1 ≤ n) (h0 : zs.getD 0 0 = 2) (hc : n ≤ c) (h2n : 2 ≤ n) (hu : zs.getD 1 0 = t) (hne : t ≠ (n : Int) - 2) :
    Calls Try.prog 36 #[.slice (some ⟨b, off, none⟩) n c, .int .i64 m] w fun e w' => e = .returned (.tuple #[.agg #[.int .i64 2, .int .i64 0, .slice none 0 0, .slice none 0 0, .int .i64 0, .int .i64 0, .int .u16 0, .int .u16 0, .int .u16 0, .int .i64 0, .int .i64 0, .bool false, .int .i64 0, .slice none 0 0], .bool false]) ∧ Below w.heap.size w w' := by
  obtain ⟨b', off', e1, hb, hcell⟩ := hr.2 (by omega)
  injection e1 with e1
  injection e1 with e1 e2
  subst e1 e2
  obtain ⟨hkw1, hkw, hg4, hg2⟩ := box2 w 28 [.int .i64 0, .int .i64 0, .slice none 0 0, .slice none 0 0, .int .i64 0, .int .i64 0, .int .u16 0, .int .u16 0, .int .u16 0, .int .i64 0, .int .i64 0, .bool false, .int .i64 0, .slice none 0 0] [.int .i64 2, .int .i64 0, .slice none 0 0, .slice none 0 0, .int .i64 0, .int .i64 0, .int .u16 0, .int .u16 0, .int .u16 0, .int .i64 0, .int .i64 0, .bool false, .int .i64 0, .slice none 0 0]
  have HCE := Lib.hid (fun X (hX : Below w.heap.size w X) j (hj : j < n) => (hX.cell (p := ⟨b, off + j, none⟩) hb).trans (hcell j hj))
  have hc0 := HCE.out _ hkw1 0 (by omega)
  rw [Nat.add_zero, h0] at hc0
  have HRG := Lib.hid (fun X (hX : Below w.heap.size w X) => (hr.below hX).more hX.size)
  have HX := Lib.hid hx
  have HKW := Lib.hid hkw
  have HG4 := Lib.hid hg4
  have HG2 := Lib.hid hg2
  clear hg4 hg2
  have hn0 : (0 : Int) < (n : Int) := by omega
  have hl2 : ¬ (n : Int) < 2 := by omega
  have hn1 : (1 : Int) < (n : Int) := by omega
  have wti : IntKind.i64.wrap t = t := IntWalk.i64_in _ (by have := hx.at_ 1; change 0 ≤ zs.getD 1 0 ∧ zs.getD 1 0 ≤ 255 at this; omega)
  have HC1 := Lib.hid (fun X (hX : Below w.heap.size w X) => (HCE.out X hX 1 (by omega)).trans (by rw [hu]))
  clear hu
  have H0 := Lib.hid h0
  clear hr hcell hkw hkw1 h0
  go_enter Try.func36, Try.ntmps36
  go_upto_region 3 with fail
  obtain ⟨w3, hw3, G4, G2, GB⟩ := named0 HG4 HG2 HKW
  have hz3 : w.heap.size + 1 < w3.heap.size := G4.out.lt
  obtain ⟨hs0, hs1, hs2, hs3, hs4, hs5, hs6, hs7, hs8, hs9, hs10, hs11, hs12, hs13⟩ := cells14 G4.out
  obtain ⟨hp0, hp1, hp2, hp3, hp4, hp5, hp6, hp7, hp8, hp9, hp10, hp11, hp12, hp13⟩ := cells14 G2.out
  obtain ⟨hf0, hf1, hf2, hf3, hf4, hf5, hf6, hf7, hf8, hf9, hf10, hf11, hf12, hf13⟩ := frozen14 G4.out
  obtain ⟨hg0, hg1, hg2, hg3, hg4, hg5, hg6, hg7, hg8, hg9, hg10, hg11, hg12, hg13⟩ := frozen14 G2.out
  rw [hw3]
  clear hw3 hc0 HG4 HG2 HKW
  have hcw : w3.cell? ⟨b, off + 1, none⟩ = some (.int .u8 t) := HC1.out w3 GB.out
  go_wp2_with fail
  obtain ⟨X, hX⟩ : ∃ X, w3 = X := ⟨_, rfl⟩
  have hx0 := G2.out
  have hxb := GB.out
  rw [hX] at hx0 hxb
  rw [hX]
  exact end14 Try.results36 hx0 rfl hxb (Nat.le_refl _) rfl rfl fun w9 hbb hk => ⟨rfl, hbb⟩

set_option maxRecDepth 100000 in
set_option maxHeartbeats 4000000 in
theorem hrd_few_3 (b off n c : Nat) (zs : List Int) (m : Int) (w : World) (hr : Row .u8 w w.heap.size (some ⟨b, off, none⟩) n zs) (hx : Bytes8 zs) (hn : n ≤ 1000) (h1n : 1 ≤ n) (h0 : zs.getD 0 0 = 3) (hc : n ≤ c) (hfew : n = 1) :
    Calls Try.prog 36 #[.slice (some ⟨b, off, none⟩) n c, .int .i64 m] w fun e w' => e = .returned (.tuple #[.agg #[.int .i64 3, .int .i64 0, .slice none 0 0, .slice none 0 0, .int .i64 0, .int .i64 0, .int .u16 0, .int .u16 0, .int .u16 0, .int .i64 0, .int .i64 0, .bool false, .int .i64 0, .slice none 0 0], .bool false]) ∧ Below w.heap.size w w' := by
  obtain ⟨b', off', e1, hb, hcell⟩ := hr.2 (by omega)
  injection e1 with e1
  injection e1 with e1 e2
  subst e1 e2
  obtain ⟨hkw1, hkw, hg4, hg2⟩ := box2 w 28 [.int .i64 0, .int .i64 0, .slice none 0 0, .slice none 0 0, .int .i64 0, .int .i64 0, .int .u16 0, .int .u16 0, .int .u16 0, .int .i64 0, .int .i64 0, .bool false, .int .i64 0, .slice none 0 0] [.int .i64 3, .int .i64 0, .slice none 0 0, .slice none 0 0, .int .i64 0, .int .i64 0, .int .u16 0, .int .u16 0, .int .u16 0, .int .i64 0, .int .i64 0, .bool false, .int .i64 0, .slice none 0 0]
  have HCE := Lib.hid (fun X (hX : Below w.heap.size w X) j (hj : j < n) => (hX.cell (p := ⟨b, off + j, none⟩) hb).trans (hcell j hj))
  have hc0 := HCE.out _ hkw1 0 (by omega)
  rw [Nat.add_zero, h0] at hc0
  have HRG := Lib.hid (fun X (hX : Below w.heap.size w X) => (hr.below hX).more hX.size)
  have HX := Lib.hid hx
  have HKW := Lib.hid hkw
  have HG4 := Lib.hid hg4
  have HG2 := Lib.hid hg2
  clear hg4 hg2
  have hn0 : (0 : Int) < (n : Int) := by omega
  have hl2 : (n : Int) < 2 := by omega
  clear hfew
  have H0 := Lib.hid h0
  clear hr hcell hkw hkw1 h0
  go_enter Try.func36, Try.ntmps36
  go_upto_region 3 with fail
  obtain ⟨w3, hw3, G4, G2, GB⟩ := named0 HG4 HG2 HKW
  have hz3 : w.heap.size + 1 < w3.heap.size := G4.out.lt
  obtain ⟨hs0, hs1, hs2, hs3, hs4, hs5, hs6, hs7, hs8, hs9, hs10, hs11, hs12, hs13⟩ := cells14 G4.out
  obtain ⟨hp0, hp1, hp2, hp3, hp4, hp5, hp6, hp7, hp8, hp9, hp10, hp11, hp12, hp13⟩ := cells14 G2.out
  obtain ⟨hf0, hf1, hf2, hf3, hf4, hf5, hf6, hf7, hf8, hf9, hf10, hf11, hf12, hf13⟩ := frozen14 G4.out
  obtain ⟨hg0, hg1, hg2, hg3, hg4, hg5, hg6, hg7, hg8, hg9, hg10, hg11, hg12, hg13⟩ := frozen14 G2.out
  rw [hw3]
  clear hw3 hc0 HG4 HG2 HKW
  go_wp2_with fail
  obtain ⟨X, hX⟩ : ∃ X, w3 = X := ⟨_, rfl⟩
  have hx0 := G2.out
  have hxb := GB.out
  rw [hX] at hx0 hxb
  rw [hX]
  exact end14 Try.results36 hx0 rfl hxb (Nat.le_refl _) rfl rfl fun w9 hbb hk => ⟨rfl, hbb⟩

set_option maxRecDepth 100000 in
set_option maxHeartbeats 4000000 in
theorem hrd_len_3 (b off n c : Nat) (zs : List Int) (m : Int) (t : Int) (w : World) (hr : Row .u8 w w.heap.size (some ⟨b, off, none⟩) n zs) (hx : Bytes8 zs) (hn : n ≤ 1000) (h1n : 1 ≤ n) (h0 : zs.getD 0 0 = 3) (hc : n ≤ c) (h2n : 2 ≤ n) (hu : zs.getD 1 0 = t) (hne : t ≠ (n : Int) - 2) :
    Calls Try.prog 36 #[.slice (some ⟨b, off, none⟩) n c, .int .i64 m] w fun e w' => e = .returned (.tuple #[.agg #[.int .i64 3, .int .i64 0, .slice none 0 0, .slice none 0 0, .int .i64 0, .int .i64 0, .int .u16 0, .int .u16 0, .int .u16 0, .int .i64 0, .int .i64 0, .bool false, .int .i64 0, .slice none 0 0], .bool false]) ∧ Below w.heap.size w w' := by
  obtain ⟨b', off', e1, hb, hcell⟩ := hr.2 (by omega)
  injection e1 with e1
  injection e1 with e1 e2
  subst e1 e2
  obtain ⟨hkw1, hkw, hg4, hg2⟩ := box2 w 28 [.int .i64 0, .int .i64 0, .slice none 0 0, .slice none 0 0, .int .i64 0, .int .i64 0, .int .u16 0, .int .u16 0, .int .u16 0, .int .i64 0, .int .i64 0, .bool false, .int .i64 0, .slice none 0 0] [.int .i64 3, .int .i64 0, .slice none 0 0, .slice none 0 0, .int .i64 0, .int .i64 0, .int .u16 0, .int .u16 0, .int .u16 0, .int .i64 0, .int .i64 0, .bool false, .int .i64 0, .slice none 0 0]
  have HCE := Lib.hid (fun X (hX : Below w.heap.size w X) j (hj : j < n) => (hX.cell (p := ⟨b, off + j, none⟩) hb).trans (hcell j hj))
  have hc0 := HCE.out _ hkw1 0 (by omega)
  rw [Nat.add_zero, h0] at hc0
  have HRG := Lib.hid (fun X (hX : Below w.heap.size w X) => (hr.below hX).more hX.size)
  have HX := Lib.hid hx
  have HKW := Lib.hid hkw
  have HG4 := Lib.hid hg4
  have HG2 := Lib.hid hg2
  clear hg4 hg2
  have hn0 : (0 : Int) < (n : Int) := by omega
  have hl2 : ¬ (n : Int) < 2 := by omega
  have hn1 : (1 : Int) < (n : Int) := by omega
  have wti : IntKind.i64.wrap t = t := IntWalk.i64_in _ (by have := hx.at_ 1; change 0 ≤ zs.getD 1 0 ∧ zs.getD 1 0 ≤ 255 at this; omega)
  have HC1 := Lib.hid (fun X (hX : Below w.heap.size w X) => (HCE.out X hX 1 (by omega)).trans (by rw [hu]))
  clear hu
  have H0 := Lib.hid h0
  clear hr hcell hkw hkw1 h0
  go_enter Try.func36, Try.ntmps36
  go_upto_region 3 with fail
  obtain ⟨w3, hw3, G4, G2, GB⟩ := named0 HG4 HG2 HKW
  have hz3 : w.heap.size + 1 < w3.heap.size := G4.out.lt
  obtain ⟨hs0, hs1, hs2, hs3, hs4, hs5, hs6, hs7, hs8, hs9, hs10, hs11, hs12, hs13⟩ := cells14 G4.out
  obtain ⟨hp0, hp1, hp2, hp3, hp4, hp5, hp6, hp7, hp8, hp9, hp10, hp11, hp12, hp13⟩ := cells14 G2.out
  obtain ⟨hf0, hf1, hf2, hf3, hf4, hf5, hf6, hf7, hf8, hf9, hf10, hf11, hf12, hf13⟩ := frozen14 G4.out
  obtain ⟨hg0, hg1, hg2, hg3, hg4, hg5, hg6, hg7, hg8, hg9, hg10, hg11, hg12, hg13⟩ := frozen14 G2.out
  rw [hw3]
  clear hw3 hc0 HG4 HG2 HKW
  have hcw : w3.cell? ⟨b, off + 1, none⟩ = some (.int .u8 t) := HC1.out w3 GB.out
  go_wp2_with fail
  obtain ⟨X, hX⟩ : ∃ X, w3 = X := ⟨_, rfl⟩
  have hx0 := G2.out
  have hxb := GB.out
  rw [hX] at hx0 hxb
  rw [hX]
  exact end14 Try.results36 hx0 rfl hxb (Nat.le_refl _) rfl rfl fun w9 hbb hk => ⟨rfl, hbb⟩

set_option maxRecDepth 100000 in
set_option maxHeartbeats 4000000 in
theorem hrd_few_4 (b off n c : Nat) (zs : List Int) (m : Int) (w : World) (hr : Row .u8 w w.heap.size (some ⟨b, off, none⟩) n zs) (hx : Bytes8 zs) (hn : n ≤ 1000) (h1n : 1 ≤ n) (h0 : zs.getD 0 0 = 4) (hc : n ≤ c) (hfew : n = 1) :
    Calls Try.prog 36 #[.slice (some ⟨b, off, none⟩) n c, .int .i64 m] w fun e w' => e = .returned (.tuple #[.agg #[.int .i64 4, .int .i64 0, .slice none 0 0, .slice none 0 0, .int .i64 0, .int .i64 0, .int .u16 0, .int .u16 0, .int .u16 0, .int .i64 0, .int .i64 0, .bool false, .int .i64 0, .slice none 0 0], .bool false]) ∧ Below w.heap.size w w' := by
  obtain ⟨b', off', e1, hb, hcell⟩ := hr.2 (by omega)
  injection e1 with e1
  injection e1 with e1 e2
  subst e1 e2
  obtain ⟨hkw1, hkw, hg4, hg2⟩ := box2 w 28 [.int .i64 0, .int .i64 0, .slice none 0 0, .slice none 0 0, .int .i64 0, .int .i64 0, .int .u16 0, .int .u16 0, .int .u16 0, .int .i64 0, .int .i64 0, .bool false, .int .i64 0, .slice none 0 0] [.int .i64 4, .int .i64 0, .slice none 0 0, .slice none 0 0, .int .i64 0, .int .i64 0, .int .u16 0, .int .u16 0, .int .u16 0, .int .i64 0, .int .i64 0, .bool false, .int .i64 0, .slice none 0 0]
  have HCE := Lib.hid (fun X (hX : Below w.heap.size w X) j (hj : j < n) => (hX.cell (p := ⟨b, off + j, none⟩) hb).trans (hcell j hj))
  have hc0 := HCE.out _ hkw1 0 (by omega)
  rw [Nat.add_zero, h0] at hc0
  have HRG := Lib.hid (fun X (hX : Below w.heap.size w X) => (hr.below hX).more hX.size)
  have HX := Lib.hid hx
  have HKW := Lib.hid hkw
  have HG4 := Lib.hid hg4
  have HG2 := Lib.hid hg2
  clear hg4 hg2
  have hn0 : (0 : Int) < (n : Int) := by omega
  have hl2 : (n : Int) < 2 := by omega
  clear hfew
  have H0 := Lib.hid h0
  clear hr hcell hkw hkw1 h0
  go_enter Try.func36, Try.ntmps36
  go_upto_region 3 with fail
  obtain ⟨w3, hw3, G4, G2, GB⟩ := named0 HG4 HG2 HKW
  have hz3 : w.heap.size + 1 < w3.heap.size := G4.out.lt
  obtain ⟨hs0, hs1, hs2, hs3, hs4, hs5, hs6, hs7, hs8, hs9, hs10, hs11, hs12, hs13⟩ := cells14 G4.out
  obtain ⟨hp0, hp1, hp2, hp3, hp4, hp5, hp6, hp7, hp8, hp9, hp10, hp11, hp12, hp13⟩ := cells14 G2.out
  obtain ⟨hf0, hf1, hf2, hf3, hf4, hf5, hf6, hf7, hf8, hf9, hf10, hf11, hf12, hf13⟩ := frozen14 G4.out
  obtain ⟨hg0, hg1, hg2, hg3, hg4, hg5, hg6, hg7, hg8, hg9, hg10, hg11, hg12, hg13⟩ := frozen14 G2.out
  rw [hw3]
  clear hw3 hc0 HG4 HG2 HKW
  go_wp2_with fail
  obtain ⟨X, hX⟩ : ∃ X, w3 = X := ⟨_, rfl⟩
  have hx0 := G2.out
  have hxb := GB.out
  rw [hX] at hx0 hxb
  rw [hX]
  exact end14 Try.results36 hx0 rfl hxb (Nat.le_refl _) rfl rfl fun w9 hbb hk => ⟨rfl, hbb⟩

set_option maxRecDepth 100000 in
set_option maxHeartbeats 4000000 in
theorem hrd_len_4 (b off n c : Nat) (zs : List Int) (m : Int) (t : Int) (w : World) (hr : Row .u8 w w.heap.size (some ⟨b, off, none⟩) n zs) (hx : Bytes8 zs) (hn : n ≤ 1000) (h1n : 1 ≤ n) (h0 : zs.getD 0 0 = 4) (hc : n ≤ c) (h2n : 2 ≤ n) (hu : zs.getD 1 0 = t) (hne : t ≠ (n : Int) - 2) :
    Calls Try.prog 36 #[.slice (some ⟨b, off, none⟩) n c, .int .i64 m] w fun e w' => e = .returned (.tuple #[.agg #[.int .i64 4, .int .i64 0, .slice none 0 0, .slice none 0 0, .int .i64 0, .int .i64 0, .int .u16 0, .int .u16 0, .int .u16 0, .int .i64 0, .int .i64 0, .bool false, .int .i64 0, .slice none 0 0], .bool false]) ∧ Below w.heap.size w w' := by
  obtain ⟨b', off', e1, hb, hcell⟩ := hr.2 (by omega)
  injection e1 with e1
  injection e1 with e1 e2
  subst e1 e2
  obtain ⟨hkw1, hkw, hg4, hg2⟩ := box2 w 28 [.int .i64 0, .int .i64 0, .slice none 0 0, .slice none 0 0, .int .i64 0, .int .i64 0, .int .u16 0, .int .u16 0, .int .u16 0, .int .i64 0, .int .i64 0, .bool false, .int .i64 0, .slice none 0 0] [.int .i64 4, .int .i64 0, .slice none 0 0, .slice none 0 0, .int .i64 0, .int .i64 0, .int .u16 0, .int .u16 0, .int .u16 0, .int .i64 0, .int .i64 0, .bool false, .int .i64 0, .slice none 0 0]
  have HCE := Lib.hid (fun X (hX : Below w.heap.size w X) j (hj : j < n) => (hX.cell (p := ⟨b, off + j, none⟩) hb).trans (hcell j hj))
  have hc0 := HCE.out _ hkw1 0 (by omega)
  rw [Nat.add_zero, h0] at hc0
  have HRG := Lib.hid (fun X (hX : Below w.heap.size w X) => (hr.below hX).more hX.size)
  have HX := Lib.hid hx
  have HKW := Lib.hid hkw
  have HG4 := Lib.hid hg4
  have HG2 := Lib.hid hg2
  clear hg4 hg2
  have hn0 : (0 : Int) < (n : Int) := by omega
  have hl2 : ¬ (n : Int) < 2 := by omega
  have hn1 : (1 : Int) < (n : Int) := by omega
  have wti : IntKind.i64.wrap t = t := IntWalk.i64_in _ (by have := hx.at_ 1; change 0 ≤ zs.getD 1 0 ∧ zs.getD 1 0 ≤ 255 at this; omega)
  have HC1 := Lib.hid (fun X (hX : Below w.heap.size w X) => (HCE.out X hX 1 (by omega)).trans (by rw [hu]))
  clear hu
  have H0 := Lib.hid h0
  clear hr hcell hkw hkw1 h0
  go_enter Try.func36, Try.ntmps36
  go_upto_region 3 with fail
  obtain ⟨w3, hw3, G4, G2, GB⟩ := named0 HG4 HG2 HKW
  have hz3 : w.heap.size + 1 < w3.heap.size := G4.out.lt
  obtain ⟨hs0, hs1, hs2, hs3, hs4, hs5, hs6, hs7, hs8, hs9, hs10, hs11, hs12, hs13⟩ := cells14 G4.out
  obtain ⟨hp0, hp1, hp2, hp3, hp4, hp5, hp6, hp7, hp8, hp9, hp10, hp11, hp12, hp13⟩ := cells14 G2.out
  obtain ⟨hf0, hf1, hf2, hf3, hf4, hf5, hf6, hf7, hf8, hf9, hf10, hf11, hf12, hf13⟩ := frozen14 G4.out
  obtain ⟨hg0, hg1, hg2, hg3, hg4, hg5, hg6, hg7, hg8, hg9, hg10, hg11, hg12, hg13⟩ := frozen14 G2.out
  rw [hw3]
  clear hw3 hc0 HG4 HG2 HKW
  have hcw : w3.cell? ⟨b, off + 1, none⟩ = some (.int .u8 t) := HC1.out w3 GB.out
  go_wp2_with fail
  obtain ⟨X, hX⟩ : ∃ X, w3 = X := ⟨_, rfl⟩
  have hx0 := G2.out
  have hxb := GB.out
  rw [hX] at hx0 hxb
  rw [hX]
  exact end14 Try.results36 hx0 rfl hxb (Nat.le_refl _) rfl rfl fun w9 hbb hk => ⟨rfl, hbb⟩

set_option maxRecDepth 100000 in
set_option maxHeartbeats 4000000 in
theorem hrd_few_23 (b off n c : Nat) (zs : List Int) (m : Int) (w : World) (hr : Row .u8 w w.heap.size (some ⟨b, off, none⟩) n zs) (hx : Bytes8 zs) (hn : n ≤ 1000) (h1n : 1 ≤ n) (h0 : zs.getD 0 0 = 23) (hc : n ≤ c) (hfew : n = 1) :
    Calls Try.prog 36 #[.slice (some ⟨b, off, none⟩) n c, .int .i64 m] w fun e w' => e = .returned (.tuple #[.agg #[.int .i64 23, .int .i64 0, .slice none 0 0, .slice none 0 0, .int .i64 0, .int .i64 0, .int .u16 0, .int .u16 0, .int .u16 0, .int .i64 0, .int .i64 0, .bool false, .int .i64 0, .slice none 0 0], .bool false]) ∧ Below w.heap.size w w' := by
  obtain ⟨b', off', e1, hb, hcell⟩ := hr.2 (by omega)
  injection e1 with e1
  injection e1 with e1 e2
  subst e1 e2
  obtain ⟨hkw1, hkw, hg4, hg2⟩ := box2 w 28 [.int .i64 0, .int .i64 0, .slice none 0 0, .slice none 0 0, .int .i64 0, .int .i64 0, .int .u16 0, .int .u16 0, .int .u16 0, .int .i64 0, .int .i64 0, .bool false, .int .i64 0, .slice none 0 0] [.int .i64 23, .int .i64 0, .slice none 0 0, .slice none 0 0, .int .i64 0, .int .i64 0, .int .u16 0, .int .u16 0, .int .u16 0, .int .i64 0, .int .i64 0, .bool false, .int .i64 0, .slice none 0 0]
  have HCE := Lib.hid (fun X (hX : Below w.heap.size w X) j (hj : j < n) => (hX.cell (p := ⟨b, off + j, none⟩) hb).trans (hcell j hj))
  have hc0 := HCE.out _ hkw1 0 (by omega)
  rw [Nat.add_zero, h0] at hc0
  have HRG := Lib.hid (fun X (hX : Below w.heap.size w X) => (hr.below hX).more hX.size)
  have HX := Lib.hid hx
  have HKW := Lib.hid hkw
  have HG4 := Lib.hid hg4
  have HG2 := Lib.hid hg2
  clear hg4 hg2
  have hn0 : (0 : Int) < (n : Int) := by omega
  have hl2 : (n : Int) < 2 := by omega
  clear hfew
  have H0 := Lib.hid h0
  clear hr hcell hkw hkw1 h0
  go_enter Try.func36, Try.ntmps36
  go_upto_region 3 with fail
  obtain ⟨w3, hw3, G4, G2, GB⟩ := named0 HG4 HG2 HKW
  have hz3 : w.heap.size + 1 < w3.heap.size := G4.out.lt
  obtain ⟨hs0, hs1, hs2, hs3, hs4, hs5, hs6, hs7, hs8, hs9, hs10, hs11, hs12, hs13⟩ := cells14 G4.out
  obtain ⟨hp0, hp1, hp2, hp3, hp4, hp5, hp6, hp7, hp8, hp9, hp10, hp11, hp12, hp13⟩ := cells14 G2.out
  obtain ⟨hf0, hf1, hf2, hf3, hf4, hf5, hf6, hf7, hf8, hf9, hf10, hf11, hf12, hf13⟩ := frozen14 G4.out
  obtain ⟨hg0, hg1, hg2, hg3, hg4, hg5, hg6, hg7, hg8, hg9, hg10, hg11, hg12, hg13⟩ := frozen14 G2.out
  rw [hw3]
  clear hw3 hc0 HG4 HG2 HKW
  go_wp2_with fail
  obtain ⟨X, hX⟩ : ∃ X, w3 = X := ⟨_, rfl⟩
  have hx0 := G2.out
  have hxb := GB.out
  rw [hX] at hx0 hxb
  rw [hX]
  exact end14 Try.results36 hx0 rfl hxb (Nat.le_refl _) rfl rfl fun w9 hbb hk => ⟨rfl, hbb⟩

set_option maxRecDepth 100000 in
set_option maxHeartbeats 4000000 in
theorem hrd_len_23 (b off n c : Nat) (zs : List Int) (m : Int) (t : Int) (w : World) (hr : Row .u8 w w.heap.size (some ⟨b, off, none⟩) n zs) (hx : Bytes8 zs) (hn : n ≤ 1000) (h1n : 1 ≤ n) (h0 : zs.getD 0 0 = 23) (hc : n ≤ c) (h2n : 2 ≤ n) (hu : zs.getD 1 0 = t) (hne : t ≠ (n : Int) - 2) :
    Calls Try.prog 36 #[.slice (some ⟨b, off, none⟩) n c, .int .i64 m] w fun e w' => e = .returned (.tuple #[.agg #[.int .i64 23, .int .i64 0, .slice none 0 0, .slice none 0 0, .int .i64 0, .int .i64 0, .int .u16 0, .int .u16 0, .int .u16 0, .int .i64 0, .int .i64 0, .bool false, .int .i64 0, .slice none 0 0], .bool false]) ∧ Below w.heap.size w w' := by
  obtain ⟨b', off', e1, hb, hcell⟩ := hr.2 (by omega)
  injection e1 with e1
  injection e1 with e1 e2
  subst e1 e2
  obtain ⟨hkw1, hkw, hg4, hg2⟩ := box2 w 28 [.int .i64 0, .int .i64 0, .slice none 0 0, .slice none 0 0, .int .i64 0, .int .i64 0, .int .u16 0, .int .u16 0, .int .u16 0, .int .i64 0, .int .i64 0, .bool false, .int .i64 0, .slice none 0 0] [.int .i64 23, .int .i64 0, .slice none 0 0, .slice none 0 0, .int .i64 0, .int .i64 0, .int .u16 0, .int .u16 0, .int .u16 0, .int .i64 0, .int .i64 0, .bool false, .int .i64 0, .slice none 0 0]
  have HCE := Lib.hid (fun X (hX : Below w.heap.size w X) j (hj : j < n) => (hX.cell (p := ⟨b, off + j, none⟩) hb).trans (hcell j hj))
  have hc0 := HCE.out _ hkw1 0 (by omega)
  rw [Nat.add_zero, h0] at hc0
  have HRG := Lib.hid (fun X (hX : Below w.heap.size w X) => (hr.below hX).more hX.size)
  have HX := Lib.hid hx
  have HKW := Lib.hid hkw
  have HG4 := Lib.hid hg4
  have HG2 := Lib.hid hg2
  clear hg4 hg2
  have hn0 : (0 : Int) < (n : Int) := by omega
  have hl2 : ¬ (n : Int) < 2 := by omega
  have hn1 : (1 : Int) < (n : Int) := by omega
  have wti : IntKind.i64.wrap t = t := IntWalk.i64_in _ (by have := hx.at_ 1; change 0 ≤ zs.getD 1 0 ∧ zs.getD 1 0 ≤ 255 at this; omega)
  have HC1 := Lib.hid (fun X (hX : Below w.heap.size w X) => (HCE.out X hX 1 (by omega)).trans (by rw [hu]))
  clear hu
  have H0 := Lib.hid h0
  clear hr hcell hkw hkw1 h0
  go_enter Try.func36, Try.ntmps36
  go_upto_region 3 with fail
  obtain ⟨w3, hw3, G4, G2, GB⟩ := named0 HG4 HG2 HKW
  have hz3 : w.heap.size + 1 < w3.heap.size := G4.out.lt
  obtain ⟨hs0, hs1, hs2, hs3, hs4, hs5, hs6, hs7, hs8, hs9, hs10, hs11, hs12, hs13⟩ := cells14 G4.out
  obtain ⟨hp0, hp1, hp2, hp3, hp4, hp5, hp6, hp7, hp8, hp9, hp10, hp11, hp12, hp13⟩ := cells14 G2.out
  obtain ⟨hf0, hf1, hf2, hf3, hf4, hf5, hf6, hf7, hf8, hf9, hf10, hf11, hf12, hf13⟩ := frozen14 G4.out
  obtain ⟨hg0, hg1, hg2, hg3, hg4, hg5, hg6, hg7, hg8, hg9, hg10, hg11, hg12, hg13⟩ := frozen14 G2.out
  rw [hw3]
  clear hw3 hc0 HG4 HG2 HKW
  have hcw : w3.cell? ⟨b, off + 1, none⟩ = some (.int .u8 t) := HC1.out w3 GB.out
  go_wp2_with fail
  obtain ⟨X, hX⟩ : ∃ X, w3 = X := ⟨_, rfl⟩
  have hx0 := G2.out
  have hxb := GB.out
  rw [hX] at hx0 hxb
  rw [hX]
  exact end14 Try.results36 hx0 rfl hxb (Nat.le_refl _) rfl rfl fun w9 hbb hk => ⟨rfl, hbb⟩

set_option maxRecDepth 100000 in
set_option maxHeartbeats 4000000 in
theorem hrd_lo_1 (b off n c : Nat) (zs : List Int) (m : Int) (t : Int) (w : World) (hr : Row .u8 w w.heap.size (some ⟨b, off, none⟩) n zs) (hx : Bytes8 zs) (hn : n ≤ 1000) (h1n : 1 ≤ n) (h0 : zs.getD 0 0 = 1) (hc : n ≤ c) (h2n : 2 ≤ n) (hu : zs.getD 1 0 = t) (heq : t = (n : Int) - 2) (hm : m < 1) :
    Calls Try.prog 36 #[.slice (some ⟨b, off, none⟩) n c, .int .i64 m] w fun e w' => e = .returned (.tuple #[.agg #[.int .i64 1, .int .i64 0, .slice none 0 0, .slice none 0 0, .int .i64 0, .int .i64 0, .int .u16 0, .int .u16 0, .int .u16 0, .int .i64 0, .int .i64 0, .bool false, .int .i64 0, .slice none 0 0], .bool false]) ∧ Below w.heap.size w w' := by
  obtain ⟨b', off', e1, hb, hcell⟩ := hr.2 (by omega)
  injection e1 with e1
  injection e1 with e1 e2
  subst e1 e2
  obtain ⟨hkw1, hkw, hg4, hg2⟩ := box2 w 28 [.int .i64 0, .int .i64 0, .slice none 0 0, .slice none 0 0, .int .i64 0, .int .i64 0, .int .u16 0, .int .u16 0, .int .u16 0, .int .i64 0, .int .i64 0, .bool false, .int .i64 0, .slice none 0 0] [.int .i64 1, .int .i64 0, .slice none 0 0, .slice none 0 0, .int .i64 0, .int .i64 0, .int .u16 0, .int .u16 0, .int .u16 0, .int .i64 0, .int .i64 0, .bool false, .int .i64 0, .slice none 0 0]
  have HCE := Lib.hid (fun X (hX : Below w.heap.size w X) j (hj : j < n) => (hX.cell (p := ⟨b, off + j, none⟩) hb).trans (hcell j hj))
  have hc0 := HCE.out _ hkw1 0 (by omega)
  rw [Nat.add_zero, h0] at hc0
  have HRG := Lib.hid (fun X (hX : Below w.heap.size w X) => (hr.below hX).more hX.size)
  have HX := Lib.hid hx
  have HKW := Lib.hid hkw
  have HG4 := Lib.hid hg4
  have HG2 := Lib.hid hg2
  clear hg4 hg2
  have hn0 : (0 : Int) < (n : Int) := by omega
  have hl2 : ¬ (n : Int) < 2 := by omega
  have hn1 : (1 : Int) < (n : Int) := by omega
  have wti : IntKind.i64.wrap t = t := IntWalk.i64_in _ (by have := hx.at_ 1; change 0 ≤ zs.getD 1 0 ∧ zs.getD 1 0 ≤ 255 at this; omega)
  have HC1 := Lib.hid (fun X (hX : Below w.heap.size w X) => (HCE.out X hX 1 (by omega)).trans (by rw [hu]))
  have hne : (t != (n : Int) - 2) = false := by simp [heq]
  clear hu heq
  have H0 := Lib.hid h0
  clear hr hcell hkw hkw1 h0
  go_enter Try.func36, Try.ntmps36
  go_upto_region 3 with fail
  obtain ⟨w3, hw3, G4, G2, GB⟩ := named0 HG4 HG2 HKW
  have hz3 : w.heap.size + 1 < w3.heap.size := G4.out.lt
  obtain ⟨hs0, hs1, hs2, hs3, hs4, hs5, hs6, hs7, hs8, hs9, hs10, hs11, hs12, hs13⟩ := cells14 G4.out
  obtain ⟨hp0, hp1, hp2, hp3, hp4, hp5, hp6, hp7, hp8, hp9, hp10, hp11, hp12, hp13⟩ := cells14 G2.out
  obtain ⟨hf0, hf1, hf2, hf3, hf4, hf5, hf6, hf7, hf8, hf9, hf10, hf11, hf12, hf13⟩ := frozen14 G4.out
  obtain ⟨hg0, hg1, hg2, hg3, hg4, hg5, hg6, hg7, hg8, hg9, hg10, hg11, hg12, hg13⟩ := frozen14 G2.out
  rw [hw3]
  clear hw3 hc0 HG4 HG2 HKW
  have hcw : w3.cell? ⟨b, off + 1, none⟩ = some (.int .u8 t) := HC1.out w3 GB.out
  go_wp2_with fail
  obtain ⟨X, hX⟩ : ∃ X, w3 = X := ⟨_, rfl⟩
  have hx0 := G2.out
  have hxb := GB.out
  rw [hX] at hx0 hxb
  rw [hX]
  exact end14 Try.results36 hx0 rfl hxb (Nat.le_refl _) rfl rfl fun w9 hbb hk => ⟨rfl, hbb⟩

set_option maxRecDepth 100000 in
set_option maxHeartbeats 4000000 in
theorem hrd_hi_1 (b off n c : Nat) (zs : List Int) (m : Int) (t : Int) (w : World) (hr : Row .u8 w w.heap.size (some ⟨b, off, none⟩) n zs) (hx : Bytes8 zs) (hn : n ≤ 1000) (h1n : 1 ≤ n) (h0 : zs.getD 0 0 = 1) (hc : n ≤ c) (h2n : 2 ≤ n) (hu : zs.getD 1 0 = t) (heq : t = (n : Int) - 2) (hm1 : ¬ m < 1) (hm : 2000 < m) :
    Calls Try.prog 36 #[.slice (some ⟨b, off, none⟩) n c, .int .i64 m] w fun e w' => e = .returned (.tuple #[.agg #[.int .i64 1, .int .i64 0, .slice none 0 0, .slice none 0 0, .int .i64 0, .int .i64 0, .int .u16 0, .int .u16 0, .int .u16 0, .int .i64 0, .int .i64 0, .bool false, .int .i64 0, .slice none 0 0], .bool false]) ∧ Below w.heap.size w w' := by
  obtain ⟨b', off', e1, hb, hcell⟩ := hr.2 (by omega)
  injection e1 with e1
  injection e1 with e1 e2
  subst e1 e2
  obtain ⟨hkw1, hkw, hg4, hg2⟩ := box2 w 28 [.int .i64 0, .int .i64 0, .slice none 0 0, .slice none 0 0, .int .i64 0, .int .i64 0, .int .u16 0, .int .u16 0, .int .u16 0, .int .i64 0, .int .i64 0, .bool false, .int .i64 0, .slice none 0 0] [.int .i64 1, .int .i64 0, .slice none 0 0, .slice none 0 0, .int .i64 0, .int .i64 0, .int .u16 0, .int .u16 0, .int .u16 0, .int .i64 0, .int .i64 0, .bool false, .int .i64 0, .slice none 0 0]
  have HCE := Lib.hid (fun X (hX : Below w.heap.size w X) j (hj : j < n) => (hX.cell (p := ⟨b, off + j, none⟩) hb).trans (hcell j hj))
  have hc0 := HCE.out _ hkw1 0 (by omega)
  rw [Nat.add_zero, h0] at hc0
  have HRG := Lib.hid (fun X (hX : Below w.heap.size w X) => (hr.below hX).more hX.size)
  have HX := Lib.hid hx
  have HKW := Lib.hid hkw
  have HG4 := Lib.hid hg4
  have HG2 := Lib.hid hg2
  clear hg4 hg2
  have hn0 : (0 : Int) < (n : Int) := by omega
  have hl2 : ¬ (n : Int) < 2 := by omega
  have hn1 : (1 : Int) < (n : Int) := by omega
  have wti : IntKind.i64.wrap t = t := IntWalk.i64_in _ (by have := hx.at_ 1; change 0 ≤ zs.getD 1 0 ∧ zs.getD 1 0 ≤ 255 at this; omega)
  have HC1 := Lib.hid (fun X (hX : Below w.heap.size w X) => (HCE.out X hX 1 (by omega)).trans (by rw [hu]))
  have hne : (t != (n : Int) - 2) = false := by simp [heq]
  clear hu heq
  have H0 := Lib.hid h0
  clear hr hcell hkw hkw1 h0
  go_enter Try.func36, Try.ntmps36
  go_upto_region 3 with fail
  obtain ⟨w3, hw3, G4, G2, GB⟩ := named0 HG4 HG2 HKW
  have hz3 : w.heap.size + 1 < w3.heap.size := G4.out.lt
  obtain ⟨hs0, hs1, hs2, hs3, hs4, hs5, hs6, hs7, hs8, hs9, hs10, hs11, hs12, hs13⟩ := cells14 G4.out
  obtain ⟨hp0, hp1, hp2, hp3, hp4, hp5, hp6, hp7, hp8, hp9, hp10, hp11, hp12, hp13⟩ := cells14 G2.out
  obtain ⟨hf0, hf1, hf2, hf3, hf4, hf5, hf6, hf7, hf8, hf9, hf10, hf11, hf12, hf13⟩ := frozen14 G4.out
  obtain ⟨hg0, hg1, hg2, hg3, hg4, hg5, hg6, hg7, hg8, hg9, hg10, hg11, hg12, hg13⟩ := frozen14 G2.out
  rw [hw3]
  clear hw3 hc0 HG4 HG2 HKW
  have hcw : w3.cell? ⟨b, off + 1, none⟩ = some (.int .u8 t) := HC1.out w3 GB.out
  go_wp2_with fail
  obtain ⟨X, hX⟩ : ∃ X, w3 = X := ⟨_, rfl⟩
  have hx0 := G2.out
  have hxb := GB.out
  rw [hX] at hx0 hxb
  rw [hX]
  exact end14 Try.results36 hx0 rfl hxb (Nat.le_refl _) rfl rfl fun w9 hbb hk => ⟨rfl, hbb⟩

set_option maxRecDepth 100000 in
set_option maxHeartbeats 4000000 in
theorem hrd_lo_2 (b off n c : Nat) (zs : List Int) (m : Int) (t : Int) (w : World) (hr : Row .u8 w w.heap.size (some ⟨b, off, none⟩) n zs) (hx : Bytes8 zs) (hn : n ≤ 1000) (h1n : 1 ≤ n) (h0 : zs.getD 0 0 = 2) (hc : n ≤ c) (h2n : 2 ≤ n) (hu : zs.getD 1 0 = t) (heq : t = (n : Int) - 2) (hm : m < 1) :
    Calls Try.prog 36 #[.slice (some ⟨b, off, none⟩) n c, .int .i64 m] w fun e w' => e = .returned (.tuple #[.agg #[.int .i64 2, .int .i64 0, .slice none 0 0, .slice none 0 0, .int .i64 0, .int .i64 0, .int .u16 0, .int .u16 0, .int .u16 0, .int .i64 0, .int .i64 0, .bool false, .int .i64 0, .slice none 0 0], .bool false]) ∧ Below w.heap.size w w' := by
  obtain ⟨b', off', e1, hb, hcell⟩ := hr.2 (by omega)
  injection e1 with e1
  injection e1 with e1 e2
  subst e1 e2
  obtain ⟨hkw1, hkw, hg4, hg2⟩ := box2 w 28 [.int .i64 0, .int .i64 0, .slice none 0 0, .slice none 0 0, .int .i64 0, .int .i64 0, .int .u16 0, .int .u16 0, .int .u16 0, .int .i64 0, .int .i64 0, .bool false, .int .i64 0, .slice none 0 0] [.int .i64 2, .int .i64 0, .slice none 0 0, .slice none 0 0, .int .i64 0, .int .i64 0, .int .u16 0, .int .u16 0, .int .u16 0, .int .i64 0, .int .i64 0, .bool false, .int .i64 0, .slice none 0 0]
  have HCE := Lib.hid (fun X (hX : Below w.heap.size w X) j (hj : j < n) => (hX.cell (p := ⟨b, off + j, none⟩) hb).trans (hcell j hj))
  have hc0 := HCE.out _ hkw1 0 (by omega)
  rw [Nat.add_zero, h0] at hc0
  have HRG := Lib.hid (fun X (hX : Below w.heap.size w X) => (hr.below hX).more hX.size)
  have HX := Lib.hid hx
  have HKW := Lib.hid hkw
  have HG4 := Lib.hid hg4
  have HG2 := Lib.hid hg2
  clear hg4 hg2
  have hn0 : (0 : Int) < (n : Int) := by omega
  have hl2 : ¬ (n : Int) < 2 := by omega
  have hn1 : (1 : Int) < (n : Int) := by omega
  have wti : IntKind.i64.wrap t = t := IntWalk.i64_in _ (by have := hx.at_ 1; change 0 ≤ zs.getD 1 0 ∧ zs.getD 1 0 ≤ 255 at this; omega)
  have HC1 := Lib.hid (fun X (hX : Below w.heap.size w X) => (HCE.out X hX 1 (by omega)).trans (by rw [hu]))
  have hne : (t != (n : Int) - 2) = false := by simp [heq]
  clear hu heq
  have H0 := Lib.hid h0
  clear hr hcell hkw hkw1 h0
  go_enter Try.func36, Try.ntmps36
  go_upto_region 3 with fail
  obtain ⟨w3, hw3, G4, G2, GB⟩ := named0 HG4 HG2 HKW
  have hz3 : w.heap.size + 1 < w3.heap.size := G4.out.lt
  obtain ⟨hs0, hs1, hs2, hs3, hs4, hs5, hs6, hs7, hs8, hs9, hs10, hs11, hs12, hs13⟩ := cells14 G4.out
  obtain ⟨hp0, hp1, hp2, hp3, hp4, hp5, hp6, hp7, hp8, hp9, hp10, hp11, hp12, hp13⟩ := cells14 G2.out
  obtain ⟨hf0, hf1, hf2, hf3, hf4, hf5, hf6, hf7, hf8, hf9, hf10, hf11, hf12, hf13⟩ := frozen14 G4.out
  obtain ⟨hg0, hg1, hg2, hg3, hg4, hg5, hg6, hg7, hg8, hg9, hg10, hg11, hg12, hg13⟩ := frozen14 G2.out
  rw [hw3]
  clear hw3 hc0 HG4 HG2 HKW
  have hcw : w3.cell? ⟨b, off + 1, none⟩ = some (.int .u8 t) := HC1.out w3 GB.out
  go_wp2_with fail
  obtain ⟨X, hX⟩ : ∃ X, w3 = X := ⟨_, rfl⟩
  have hx0 := G2.out
  have hxb := GB.out
  rw [hX] at hx0 hxb
  rw [hX]
  exact end14 Try.results36 hx0 rfl hxb (Nat.le_refl _) rfl rfl fun w9 hbb hk => ⟨rfl, hbb⟩

set_option maxRecDepth 100000 in
set_option maxHeartbeats 4000000 in
theorem hrd_hi_2 (b off n c : Nat) (zs : List Int) (m : Int) (t : Int) (w : World) (hr : Row .u8 w w.heap.size (some ⟨b, off, none⟩) n zs) (hx : Bytes8 zs) (hn : n ≤ 1000) (h1n : 1 ≤ n) (h0 : zs.getD 0 0 = 2) (hc : n ≤ c) (h2n : 2 ≤ n) (hu : zs.getD 1 0 = t) (heq : t = (n : Int) - 2) (hm1 : ¬ m < 1) (hm : 2000 < m) :
    Calls Try.prog 36 #[.slice (some ⟨b, off, none⟩) n c, .int .i64 m] w fun e w' => e = .returned (.tuple #[.agg #[.int .i64 2, .int .i64 0, .slice none 0 0, .slice none 0 0, .int .i64 0, .int .i64 0, .int .u16 0, .int .u16 0, .int .u16 0, .int .i64 0, .int .i64 0, .bool false, .int .i64 0, .slice none 0 0], .bool false]) ∧ Below w.heap.size w w' := by
  obtain ⟨b', off', e1, hb, hcell⟩ := hr.2 (by omega)
  injection e1 with e1
  injection e1 with e1 e2
  subst e1 e2
  obtain ⟨hkw1, hkw, hg4, hg2⟩ := box2 w 28 [.int .i64 0, .int .i64 0, .slice none 0 0, .slice none 0 0, .int .i64 0, .int .i64 0, .int .u16 0, .int .u16 0, .int .u16 0, .int .i64 0, .int .i64 0, .bool false, .int .i64 0, .slice none 0 0] [.int .i64 2, .int .i64 0, .slice none 0 0, .slice none 0 0, .int .i64 0, .int .i64 0, .int .u16 0, .int .u16 0, .int .u16 0, .int .i64 0, .int .i64 0, .bool false, .int .i64 0, .slice none 0 0]
  have HCE := Lib.hid (fun X (hX : Below w.heap.size w X) j (hj : j < n) => (hX.cell (p := ⟨b, off + j, none⟩) hb).trans (hcell j hj))
  have hc0 := HCE.out _ hkw1 0 (by omega)
  rw [Nat.add_zero, h0] at hc0
  have HRG := Lib.hid (fun X (hX : Below w.heap.size w X) => (hr.below hX).more hX.size)
  have HX := Lib.hid hx
  have HKW := Lib.hid hkw
  have HG4 := Lib.hid hg4
  have HG2 := Lib.hid hg2
  clear hg4 hg2
  have hn0 : (0 : Int) < (n : Int) := by omega
  have hl2 : ¬ (n : Int) < 2 := by omega
  have hn1 : (1 : Int) < (n : Int) := by omega
  have wti : IntKind.i64.wrap t = t := IntWalk.i64_in _ (by have := hx.at_ 1; change 0 ≤ zs.getD 1 0 ∧ zs.getD 1 0 ≤ 255 at this; omega)
  have HC1 := Lib.hid (fun X (hX : Below w.heap.size w X) => (HCE.out X hX 1 (by omega)).trans (by rw [hu]))
  have hne : (t != (n : Int) - 2) = false := by simp [heq]
  clear hu heq
  have H0 := Lib.hid h0
  clear hr hcell hkw hkw1 h0
  go_enter Try.func36, Try.ntmps36
  go_upto_region 3 with fail
  obtain ⟨w3, hw3, G4, G2, GB⟩ := named0 HG4 HG2 HKW
  have hz3 : w.heap.size + 1 < w3.heap.size := G4.out.lt
  obtain ⟨hs0, hs1, hs2, hs3, hs4, hs5, hs6, hs7, hs8, hs9, hs10, hs11, hs12, hs13⟩ := cells14 G4.out
  obtain ⟨hp0, hp1, hp2, hp3, hp4, hp5, hp6, hp7, hp8, hp9, hp10, hp11, hp12, hp13⟩ := cells14 G2.out
  obtain ⟨hf0, hf1, hf2, hf3, hf4, hf5, hf6, hf7, hf8, hf9, hf10, hf11, hf12, hf13⟩ := frozen14 G4.out
  obtain ⟨hg0, hg1, hg2, hg3, hg4, hg5, hg6, hg7, hg8, hg9, hg10, hg11, hg12, hg13⟩ := frozen14 G2.out
  rw [hw3]
  clear hw3 hc0 HG4 HG2 HKW
  have hcw : w3.cell? ⟨b, off + 1, none⟩ = some (.int .u8 t) := HC1.out w3 GB.out
  go_wp2_with fail
  obtain ⟨X, hX⟩ : ∃ X, w3 = X := ⟨_, rfl⟩
  have hx0 := G2.out
  have hxb := GB.out
  rw [hX] at hx0 hxb
  rw [hX]
  exact end14 Try.results36 hx0 rfl hxb (Nat.le_refl _) rfl rfl fun w9 hbb hk => ⟨rfl, hbb⟩

end Go.Proofs.Ytielfekkonflfaa

/- Joined: Hrd3 Hrd4 Hrd5. -/
import Derived.Test.YtielfekkonflfaaJTellBack2
import Derived.Test.YtielfekkonflfaaJTellBack5
import Derived.Deep.CutBlock
import Derived.Deep.RegionLaw
import Derived.Test.YtielfekkonflfaaTold0
import Derived.Test.YtielfekkonflfaaTold5
namespace Go.Proofs.Ytielfekkonflfaa
open Go.ChangeShapes Go.WideShapes Go.ChangeAt Go.RowKit
set_option linter.unusedVariables false
set_option linter.unusedSimpArgs false

set_option maxRecDepth 100000 in
set_option maxHeartbeats 4000000 in
theorem hrd_no_1 (b off n c : Nat) (zs : List Int) (m : Int) (t : Int) (w : World) (hr : Row .u8 w w.heap.size (some ⟨b, off, none⟩) n zs) (hx : Bytes8 zs) (hn : n ≤ 1000) (h1n : 1 ≤ n) (h0 : zs.getD 0 0 = 1) (hc : n ≤ c) (h2n : 2 ≤ n) (hu : zs.getD 1 0 = t) (heq : t = (n : Int) - 2) (hm1 : ¬ m < 1) (hm2 : ¬ 2000 < m) (hno : nbI m ≠ ((n - 2 : Nat) : Int)) :
    Calls Try.prog 36 #[.slice (some ⟨b, off, none⟩) n c, .int .i64 m] w fun e w' => e = .returned (.tuple #[.agg #[.int .i64 1, .int .i64 0, .slice none 0 0, .slice none 0 0, .int .i64 0, .int .i64 0, .int .u16 0, .int .u16 0, .int .u16 0, .int .i64 0, .int .i64 0, .bool false, .int .i64 0, .slice none 0 0], .bool false]) ∧ Below w.heap.size w w' := by
  obtain ⟨b', off', e1, hb, hcell⟩ := hr.2 (by omega)
  injection e1 with e1
  injection e1 with e1 e2
  subst e1 e2
  obtain ⟨hkw1, hkw, hg4, hg2⟩ := box2 w 28 [.int .i64 0, .int .i64 0, .slice none 0 0, .slice none 0 0, .int .i64 0, .int .i64 0, .int .u16 0, .int .u16 0, .int .u16 0, .int .i64 0, .int .i64 0, .bool false, .int .i64 0, .slice none 0 0] [.int .i64 1, .int .i64 0, .slice none 0 0, .slice none 0 0, .int .i64 0, .int .i64 0, .int .u16 0, .int .u16 0, .int .u16 0, .int .i64 0, .int .i64 0, .bool false, .int .i64 0, .slice none 0 0]
  have HCE := Lib.hid (fun X (hX : Below w.heap.size w X) j (hj : j < n) => (hX.cell (p := ⟨b, off + j, none⟩) hb).trans (hcell j hj))
  have hc0 := HCE.out _ hkw1 0 (by omega)
  rw [Nat.add_zero, h0] at hc0
  have HRG := Lib.hid (fun X (hX : Below w.heap.size w X) => (hr.below hX).more hX.size)
  have HX := Lib.hid hx
  have HKW := Lib.hid hkw
  have HG4 := Lib.hid hg4
  have HG2 := Lib.hid hg2
  clear hg4 hg2
  have hn0 : (0 : Int) < (n : Int) := by omega
  have hl2 : ¬ (n : Int) < 2 := by omega
  have hn1 : (1 : Int) < (n : Int) := by omega
  have wti : IntKind.i64.wrap t = t := IntWalk.i64_in _ (by have := hx.at_ 1; change 0 ≤ zs.getD 1 0 ∧ zs.getD 1 0 ≤ 255 at this; omega)
  have HC1 := Lib.hid (fun X (hX : Below w.heap.size w X) => (HCE.out X hX 1 (by omega)).trans (by rw [hu]))
  have CU := Lib.hid (fun A (d : Nat) W => refunpack_no A (n - 2) d m W (by omega) (by omega) (.inr hno))
  clear hno
  have hne : (t != (n : Int) - 2) = false := by simp [heq]
  have h2i : (2 : Int) ≤ (n : Int) := by omega
  clear heq hu
  have H0 := Lib.hid h0
  clear hr hcell hkw hkw1 h0
  go_enter Try.func36, Try.ntmps36
  go_upto_region 3 with fail
  obtain ⟨w3, hw3, G4, G2, GB⟩ := named0 HG4 HG2 HKW
  have hz3 : w.heap.size + 1 < w3.heap.size := G4.out.lt
  obtain ⟨hs0, hs1, hs2, hs3, hs4, hs5, hs6, hs7, hs8, hs9, hs10, hs11, hs12, hs13⟩ := cells14 G4.out
  obtain ⟨hp0, hp1, hp2, hp3, hp4, hp5, hp6, hp7, hp8, hp9, hp10, hp11, hp12, hp13⟩ := cells14 G2.out
  obtain ⟨hf0, hf1, hf2, hf3, hf4, hf5, hf6, hf7, hf8, hf9, hf10, hf11, hf12, hf13⟩ := frozen14 G4.out
  obtain ⟨hg0, hg1, hg2, hg3, hg4, hg5, hg6, hg7, hg8, hg9, hg10, hg11, hg12, hg13⟩ := frozen14 G2.out
  rw [hw3]
  clear hw3 hc0 HG4 HG2 HKW
  have hcw : w3.cell? ⟨b, off + 1, none⟩ = some (.int .u8 t) := HC1.out w3 GB.out
  by_cases h2c : c = 2
  all_goals
    go_wp2_with (first
      | (go_at_call 61; (with_reducible refine (CU.out _ _ _).mono ?_); rintro e w5 ⟨rfl, rfl⟩))
    obtain ⟨X, hX⟩ : ∃ X, (w3.setCell ⟨w.heap.size + 1, 2, none⟩ (.slice none 0 0)) = X := ⟨_, rfl⟩
    have hx0 := (whole_far G2.out (show w.heap.size ≠ w.heap.size + 1 by omega) 2 (.slice none 0 0))
    have hxb := (GB.out.setCell (p := ⟨w.heap.size + 1, 2, none⟩) (Nat.le_succ _) (.slice none 0 0))
    rw [hX] at hx0 hxb
    rw [hX]
    exact end14 Try.results36 hx0 rfl hxb (Nat.le_refl _) rfl rfl fun w9 hbb hk => ⟨rfl, hbb⟩

set_option maxRecDepth 100000 in
set_option maxHeartbeats 4000000 in
theorem hrd_no_2 (b off n c : Nat) (zs : List Int) (m : Int) (t : Int) (w : World) (hr : Row .u8 w w.heap.size (some ⟨b, off, none⟩) n zs) (hx : Bytes8 zs) (hn : n ≤ 1000) (h1n : 1 ≤ n) (h0 : zs.getD 0 0 = 2) (hc : n ≤ c) (h2n : 2 ≤ n) (hu : zs.getD 1 0 = t) (heq : t = (n : Int) - 2) (hm1 : ¬ m < 1) (hm2 : ¬ 2000 < m) (hno : nbI m ≠ ((n - 2 : Nat) : Int)) :
    Calls Try.prog 36 #[.slice (some ⟨b, off, none⟩) n c, .int .i64 m] w fun e w' => e = .returned (.tuple #[.agg #[.int .i64 2, .int .i64 0, .slice none 0 0, .slice none 0 0, .int .i64 0, .int .i64 0, .int .u16 0, .int .u16 0, .int .u16 0, .int .i64 0, .int .i64 0, .bool false, .int .i64 0, .slice none 0 0], .bool false]) ∧ Below w.heap.size w w' := by
  obtain ⟨b', off', e1, hb, hcell⟩ := hr.2 (by omega)
  injection e1 with e1
  injection e1 with e1 e2
  subst e1 e2
  obtain ⟨hkw1, hkw, hg4, hg2⟩ := box2 w 28 [.int .i64 0, .int .i64 0, .slice none 0 0, .slice none 0 0, .int .i64 0, .int .i64 0, .int .u16 0, .int .u16 0, .int .u16 0, .int .i64 0, .int .i64 0, .bool false, .int .i64 0, .slice none 0 0] [.int .i64 2, .int .i64 0, .slice none 0 0, .slice none 0 0, .int .i64 0, .int .i64 0, .int .u16 0, .int .u16 0, .int .u16 0, .int .i64 0, .int .i64 0, .bool false, .int .i64 0, .slice none 0 0]
  have HCE := Lib.hid (fun X (hX : Below w.heap.size w X) j (hj : j < n) => (hX.cell (p := ⟨b, off + j, none⟩) hb).trans (hcell j hj))
  have hc0 := HCE.out _ hkw1 0 (by omega)
  rw [Nat.add_zero, h0] at hc0
  have HRG := Lib.hid (fun X (hX : Below w.heap.size w X) => (hr.below hX).more hX.size)
  have HX := Lib.hid hx
  have HKW := Lib.hid hkw
  have HG4 := Lib.hid hg4
  have HG2 := Lib.hid hg2
  clear hg4 hg2
  have hn0 : (0 : Int) < (n : Int) := by omega
  have hl2 : ¬ (n : Int) < 2 := by omega
  have hn1 : (1 : Int) < (n : Int) := by omega
  have wti : IntKind.i64.wrap t = t := IntWalk.i64_in _ (by have := hx.at_ 1; change 0 ≤ zs.getD 1 0 ∧ zs.getD 1 0 ≤ 255 at this; omega)
  have HC1 := Lib.hid (fun X (hX : Below w.heap.size w X) => (HCE.out X hX 1 (by omega)).trans (by rw [hu]))
  have CU := Lib.hid (fun A (d : Nat) W => refunpack_no A (n - 2) d m W (by omega) (by omega) (.inr hno))
  clear hno
  have hne : (t != (n : Int) - 2) = false := by simp [heq]
  have h2i : (2 : Int) ≤ (n : Int) := by omega
  clear heq hu
  have H0 := Lib.hid h0
  clear hr hcell hkw hkw1 h0
  go_enter Try.func36, Try.ntmps36
  go_upto_region 3 with fail
  obtain ⟨w3, hw3, G4, G2, GB⟩ := named0 HG4 HG2 HKW
  have hz3 : w.heap.size + 1 < w3.heap.size := G4.out.lt
  obtain ⟨hs0, hs1, hs2, hs3, hs4, hs5, hs6, hs7, hs8, hs9, hs10, hs11, hs12, hs13⟩ := cells14 G4.out
  obtain ⟨hp0, hp1, hp2, hp3, hp4, hp5, hp6, hp7, hp8, hp9, hp10, hp11, hp12, hp13⟩ := cells14 G2.out
  obtain ⟨hf0, hf1, hf2, hf3, hf4, hf5, hf6, hf7, hf8, hf9, hf10, hf11, hf12, hf13⟩ := frozen14 G4.out
  obtain ⟨hg0, hg1, hg2, hg3, hg4, hg5, hg6, hg7, hg8, hg9, hg10, hg11, hg12, hg13⟩ := frozen14 G2.out
  rw [hw3]
  clear hw3 hc0 HG4 HG2 HKW
  have hcw : w3.cell? ⟨b, off + 1, none⟩ = some (.int .u8 t) := HC1.out w3 GB.out
  by_cases h2c : c = 2
  all_goals
    go_wp2_with (first
      | (go_at_call 61; (with_reducible refine (CU.out _ _ _).mono ?_); rintro e w5 ⟨rfl, rfl⟩))
    obtain ⟨X, hX⟩ : ∃ X, (w3.setCell ⟨w.heap.size + 1, 2, none⟩ (.slice none 0 0)) = X := ⟨_, rfl⟩
    have hx0 := (whole_far G2.out (show w.heap.size ≠ w.heap.size + 1 by omega) 2 (.slice none 0 0))
    have hxb := (GB.out.setCell (p := ⟨w.heap.size + 1, 2, none⟩) (Nat.le_succ _) (.slice none 0 0))
    rw [hX] at hx0 hxb
    rw [hX]
    exact end14 Try.results36 hx0 rfl hxb (Nat.le_refl _) rfl rfl fun w9 hbb hk => ⟨rfl, hbb⟩

set_option maxRecDepth 100000 in
set_option maxHeartbeats 4000000 in
theorem hrd_yes_1 (b off n c : Nat) (zs : List Int) (m : Int) (t : Int) (k : Nat) (w : World) (hr : Row .u8 w w.heap.size (some ⟨b, off, none⟩) n zs) (hx : Bytes8 zs) (hn : n ≤ 1000) (h1n : 1 ≤ n) (h0 : zs.getD 0 0 = 1) (hc : n ≤ c) (h2n : 2 ≤ n) (hu : zs.getD 1 0 = t) (heq : t = (n : Int) - 2) (hm1 : ¬ m < 1) (hm2 : ¬ 2000 < m) (hk : m = (k : Int)) (hkn : n - 2 = nb k) :
    Calls Try.prog 36 #[.slice (some ⟨b, off, none⟩) n c, .int .i64 m] w fun e w' => ∃ G g, e = .returned (.tuple #[.agg #[.int .i64 1, .int .i64 0, .slice G k g, .slice none 0 0, .int .i64 0, .int .i64 0, .int .u16 0, .int .u16 0, .int .u16 0, .int .i64 0, .int .i64 0, .bool false, .int .i64 0, .slice none 0 0], .bool true]) ∧ w'.ownsRow w.heap.size 4 1 (.slice G k g) k ((unb (zs.drop 2) k).map Value.bool) ∧ Below w.heap.size w w' := by
  obtain ⟨b', off', e1, hb, hcell⟩ := hr.2 (by omega)
  injection e1 with e1
  injection e1 with e1 e2
  subst e1 e2
  obtain ⟨hkw1, hkw, hg4, hg2⟩ := box2 w 28 [.int .i64 0, .int .i64 0, .slice none 0 0, .slice none 0 0, .int .i64 0, .int .i64 0, .int .u16 0, .int .u16 0, .int .u16 0, .int .i64 0, .int .i64 0, .bool false, .int .i64 0, .slice none 0 0] [.int .i64 1, .int .i64 0, .slice none 0 0, .slice none 0 0, .int .i64 0, .int .i64 0, .int .u16 0, .int .u16 0, .int .u16 0, .int .i64 0, .int .i64 0, .bool false, .int .i64 0, .slice none 0 0]
  have HCE := Lib.hid (fun X (hX : Below w.heap.size w X) j (hj : j < n) => (hX.cell (p := ⟨b, off + j, none⟩) hb).trans (hcell j hj))
  have hc0 := HCE.out _ hkw1 0 (by omega)
  rw [Nat.add_zero, h0] at hc0
  have HRG := Lib.hid (fun X (hX : Below w.heap.size w X) => (hr.below hX).more hX.size)
  have HX := Lib.hid hx
  have HKW := Lib.hid hkw
  have HG4 := Lib.hid hg4
  have HG2 := Lib.hid hg2
  clear hg4 hg2
  have hn0 : (0 : Int) < (n : Int) := by omega
  have hl2 : ¬ (n : Int) < 2 := by omega
  have hn1 : (1 : Int) < (n : Int) := by omega
  have wti : IntKind.i64.wrap t = t := IntWalk.i64_in _ (by have := hx.at_ 1; change 0 ≤ zs.getD 1 0 ∧ zs.getD 1 0 ≤ 255 at this; omega)
  have HC1 := Lib.hid (fun X (hX : Below w.heap.size w X) => (HCE.out X hX 1 (by omega)).trans (by rw [hu]))
  have HTL := Lib.hid (fun X (hX : Below w.heap.size w X) => (((hr.below hX).more hX.size : Row .u8 X X.heap.size (some ⟨b, off, none⟩) n zs)).tail (l := 2) (q := n - 2) (by omega))
  have h2d : ¬ c = 2 := by unfold nb at hkn; omega
  have CU := Lib.hid (fun (d : Nat) W (hW : Below w.heap.size w W) => rrunpack_at (some ⟨b, off + 2, none⟩) (n - 2) d k m (zs.drop 2) W (by omega) hk (HTL.out W hW) (hx.drop 2) (by omega))
  clear hk hkn
  have hne : (t != (n : Int) - 2) = false := by simp [heq]
  have h2i : (2 : Int) ≤ (n : Int) := by omega
  clear heq hu
  have H0 := Lib.hid h0
  clear hr hcell hkw hkw1 h0
  go_enter Try.func36, Try.ntmps36
  go_upto_region 3 with fail
  obtain ⟨w3, hw3, G4, G2, GB⟩ := named0 HG4 HG2 HKW
  have hz3 : w.heap.size + 1 < w3.heap.size := G4.out.lt
  obtain ⟨hs0, hs1, hs2, hs3, hs4, hs5, hs6, hs7, hs8, hs9, hs10, hs11, hs12, hs13⟩ := cells14 G4.out
  obtain ⟨hp0, hp1, hp2, hp3, hp4, hp5, hp6, hp7, hp8, hp9, hp10, hp11, hp12, hp13⟩ := cells14 G2.out
  obtain ⟨hf0, hf1, hf2, hf3, hf4, hf5, hf6, hf7, hf8, hf9, hf10, hf11, hf12, hf13⟩ := frozen14 G4.out
  obtain ⟨hg0, hg1, hg2, hg3, hg4, hg5, hg6, hg7, hg8, hg9, hg10, hg11, hg12, hg13⟩ := frozen14 G2.out
  rw [hw3]
  clear hw3 hc0 HG4 HG2 HKW
  have hcw : w3.cell? ⟨b, off + 1, none⟩ = some (.int .u8 t) := HC1.out w3 GB.out
  go_wp2_with (first
    | (go_at_call 61
       (with_reducible refine (CU.out _ _ ?_).mono ?_)
       · exact GB.out
       rintro e w5 ⟨G, g, rfl, ho5, hb5⟩
       have h1 := G4.out.below hb5 G4.out.lt
       have h0' := G2.out.below hb5 G2.out.lt
       have HB5 : Hid (Below w.heap.size w w5) := GB.out.trans (hb5.mono GB.out.size)
       have hz5 : w.heap.size + 1 < w5.heap.size := h1.lt
       obtain ⟨ks0, ks1, ks2, ks3, ks4, ks5, ks6, ks7, ks8, ks9, ks10, ks11, ks12, ks13⟩ := cells14 h1
       obtain ⟨kp0, kp1, kp2, kp3, kp4, kp5, kp6, kp7, kp8, kp9, kp10, kp11, kp12, kp13⟩ := cells14 h0'
       obtain ⟨kf0, kf1, kf2, kf3, kf4, kf5, kf6, kf7, kf8, kf9, kf10, kf11, kf12, kf13⟩ := frozen14 h1
       obtain ⟨kg0, kg1, kg2, kg3, kg4, kg5, kg6, kg7, kg8, kg9, kg10, kg11, kg12, kg13⟩ := frozen14 h0'
       have HH1 := Lib.hid h1
       have HH0 := Lib.hid h0'
       have HO5 : Hid (w5.ownsRow (w.heap.size + 2) 4 1 (.slice G k g) k ((unb (zs.drop 2) k).map Value.bool)) := own_mono ho5 (show w.heap.size + 2 ≤ w3.heap.size by omega)
       clear h1 h0' hb5 ho5))
  obtain ⟨X, hX⟩ : ∃ X, (w5.setCell ⟨w.heap.size + 1, 2, none⟩ (.slice G k g)) = X := ⟨_, rfl⟩
  have hx0 := (whole_far HH0.out (show w.heap.size ≠ w.heap.size + 1 by omega) 2 (.slice G k g))
  have hxb := (HB5.out.setCell (p := ⟨w.heap.size + 1, 2, none⟩) (Nat.le_succ _) (.slice G k g))
  have hox := (own_far HO5.out ⟨w.heap.size + 1, 2, none⟩ (show w.heap.size + 1 < w.heap.size + 2 by omega) (.slice G k g))
  rw [hX] at hx0 hxb hox
  rw [hX]
  exact end14 Try.results36 hx0 rfl hxb (Nat.le_refl _) rfl rfl fun w9 hbb hk => ⟨_, _, rfl, own_mono (own_blk hox hk (show w.heap.size < w.heap.size + 2 by omega)) (by omega), hbb⟩

set_option maxRecDepth 100000 in
set_option maxHeartbeats 4000000 in
theorem hrd_yes_2 (b off n c : Nat) (zs : List Int) (m : Int) (t : Int) (k : Nat) (w : World) (hr : Row .u8 w w.heap.size (some ⟨b, off, none⟩) n zs) (hx : Bytes8 zs) (hn : n ≤ 1000) (h1n : 1 ≤ n) (h0 : zs.getD 0 0 = 2) (hc : n ≤ c) (h2n : 2 ≤ n) (hu : zs.getD 1 0 = t) (heq : t = (n : Int) - 2) (hm1 : ¬ m < 1) (hm2 : ¬ 2000 < m) (hk : m = (k : Int)) (hkn : n - 2 = nb k) :
    Calls Try.prog 36 #[.slice (some ⟨b, off, none⟩) n c, .int .i64 m] w fun e w' => ∃ G g, e = .returned (.tuple #[.agg #[.int .i64 2, .int .i64 0, .slice G k g, .slice none 0 0, .int .i64 0, .int .i64 0, .int .u16 0, .int .u16 0, .int .u16 0, .int .i64 0, .int .i64 0, .bool false, .int .i64 0, .slice none 0 0], .bool true]) ∧ w'.ownsRow w.heap.size 4 1 (.slice G k g) k ((unb (zs.drop 2) k).map Value.bool) ∧ Below w.heap.size w w' := by
  obtain ⟨b', off', e1, hb, hcell⟩ := hr.2 (by omega)
  injection e1 with e1
  injection e1 with e1 e2
  subst e1 e2
  obtain ⟨hkw1, hkw, hg4, hg2⟩ := box2 w 28 [.int .i64 0, .int .i64 0, .slice none 0 0, .slice none 0 0, .int .i64 0, .int .i64 0, .int .u16 0, .int .u16 0, .int .u16 0, .int .i64 0, .int .i64 0, .bool false, .int .i64 0, .slice none 0 0] [.int .i64 2, .int .i64 0, .slice none 0 0, .slice none 0 0, .int .i64 0, .int .i64 0, .int .u16 0, .int .u16 0, .int .u16 0, .int .i64 0, .int .i64 0, .bool false, .int .i64 0, .slice none 0 0]
  have HCE := Lib.hid (fun X (hX : Below w.heap.size w X) j (hj : j < n) => (hX.cell (p := ⟨b, off + j, none⟩) hb).trans (hcell j hj))
  have hc0 := HCE.out _ hkw1 0 (by omega)
  rw [Nat.add_zero, h0] at hc0
  have HRG := Lib.hid (fun X (hX : Below w.heap.size w X) => (hr.below hX).more hX.size)
  have HX := Lib.hid hx
  have HKW := Lib.hid hkw
  have HG4 := Lib.hid hg4
  have HG2 := Lib.hid hg2
  clear hg4 hg2
  have hn0 : (0 : Int) < (n : Int) := by omega
  have hl2 : ¬ (n : Int) < 2 := by omega
  have hn1 : (1 : Int) < (n : Int) := by omega
  have wti : IntKind.i64.wrap t = t := IntWalk.i64_in _ (by have := hx.at_ 1; change 0 ≤ zs.getD 1 0 ∧ zs.getD 1 0 ≤ 255 at this; omega)
  have HC1 := Lib.hid (fun X (hX : Below w.heap.size w X) => (HCE.out X hX 1 (by omega)).trans (by rw [hu]))
  have HTL := Lib.hid (fun X (hX : Below w.heap.size w X) => (((hr.below hX).more hX.size : Row .u8 X X.heap.size (some ⟨b, off, none⟩) n zs)).tail (l := 2) (q := n - 2) (by omega))
  have h2d : ¬ c = 2 := by unfold nb at hkn; omega
  have CU := Lib.hid (fun (d : Nat) W (hW : Below w.heap.size w W) => rrunpack_at (some ⟨b, off + 2, none⟩) (n - 2) d k m (zs.drop 2) W (by omega) hk (HTL.out W hW) (hx.drop 2) (by omega))
  clear hk hkn
  have hne : (t != (n : Int) - 2) = false := by simp [heq]
  have h2i : (2 : Int) ≤ (n : Int) := by omega
  clear heq hu
  have H0 := Lib.hid h0
  clear hr hcell hkw hkw1 h0
  go_enter Try.func36, Try.ntmps36
  go_upto_region 3 with fail
  obtain ⟨w3, hw3, G4, G2, GB⟩ := named0 HG4 HG2 HKW
  have hz3 : w.heap.size + 1 < w3.heap.size := G4.out.lt
  obtain ⟨hs0, hs1, hs2, hs3, hs4, hs5, hs6, hs7, hs8, hs9, hs10, hs11, hs12, hs13⟩ := cells14 G4.out
  obtain ⟨hp0, hp1, hp2, hp3, hp4, hp5, hp6, hp7, hp8, hp9, hp10, hp11, hp12, hp13⟩ := cells14 G2.out
  obtain ⟨hf0, hf1, hf2, hf3, hf4, hf5, hf6, hf7, hf8, hf9, hf10, hf11, hf12, hf13⟩ := frozen14 G4.out
  obtain ⟨hg0, hg1, hg2, hg3, hg4, hg5, hg6, hg7, hg8, hg9, hg10, hg11, hg12, hg13⟩ := frozen14 G2.out
  rw [hw3]
  clear hw3 hc0 HG4 HG2 HKW
  have hcw : w3.cell? ⟨b, off + 1, none⟩ = some (.int .u8 t) := HC1.out w3 GB.out
  go_wp2_with (first
    | (go_at_call 61
       (with_reducible refine (CU.out _ _ ?_).mono ?_)
       · exact GB.out
       rintro e w5 ⟨G, g, rfl, ho5, hb5⟩
       have h1 := G4.out.below hb5 G4.out.lt
       have h0' := G2.out.below hb5 G2.out.lt
       have HB5 : Hid (Below w.heap.size w w5) := GB.out.trans (hb5.mono GB.out.size)
       have hz5 : w.heap.size + 1 < w5.heap.size := h1.lt
       obtain ⟨ks0, ks1, ks2, ks3, ks4, ks5, ks6, ks7, ks8, ks9, ks10, ks11, ks12, ks13⟩ := cells14 h1
       obtain ⟨kp0, kp1, kp2, kp3, kp4, kp5, kp6, kp7, kp8, kp9, kp10, kp11, kp12, kp13⟩ := cells14 h0'
       obtain ⟨kf0, kf1, kf2, kf3, kf4, kf5, kf6, kf7, kf8, kf9, kf10, kf11, kf12, kf13⟩ := frozen14 h1
       obtain ⟨kg0, kg1, kg2, kg3, kg4, kg5, kg6, kg7, kg8, kg9, kg10, kg11, kg12, kg13⟩ := frozen14 h0'
       have HH1 := Lib.hid h1
       have HH0 := Lib.hid h0'
       have HO5 : Hid (w5.ownsRow (w.heap.size + 2) 4 1 (.slice G k g) k ((unb (zs.drop 2) k).map Value.bool)) := own_mono ho5 (show w.heap.size + 2 ≤ w3.heap.size by omega)
       clear h1 h0' hb5 ho5))
  obtain ⟨X, hX⟩ : ∃ X, (w5.setCell ⟨w.heap.size + 1, 2, none⟩ (.slice G k g)) = X := ⟨_, rfl⟩
  have hx0 := (whole_far HH0.out (show w.heap.size ≠ w.heap.size + 1 by omega) 2 (.slice G k g))
  have hxb := (HB5.out.setCell (p := ⟨w.heap.size + 1, 2, none⟩) (Nat.le_succ _) (.slice G k g))
  have hox := (own_far HO5.out ⟨w.heap.size + 1, 2, none⟩ (show w.heap.size + 1 < w.heap.size + 2 by omega) (.slice G k g))
  rw [hX] at hx0 hxb hox
  rw [hX]
  exact end14 Try.results36 hx0 rfl hxb (Nat.le_refl _) rfl rfl fun w9 hbb hk => ⟨_, _, rfl, own_mono (own_blk hox hk (show w.heap.size < w.heap.size + 2 by omega)) (by omega), hbb⟩

set_option maxRecDepth 100000 in
set_option maxHeartbeats 4000000 in
theorem hrw_yes_3 (b off n c : Nat) (zs : List Int) (m : Int) (t : Int) (k : Nat) (w : World) (hr : Row .u8 w w.heap.size (some ⟨b, off, none⟩) n zs) (hx : Bytes8 zs) (hn : n ≤ 1000) (h1n : 1 ≤ n) (h0 : zs.getD 0 0 = 3) (hc : n ≤ c) (h2n : 2 ≤ n) (hu : zs.getD 1 0 = t) (heq : t = (n : Int) - 2) (hnk : n = 2 + 2 * k) :
    Calls Try.prog 36 #[.slice (some ⟨b, off, none⟩) n c, .int .i64 m] w fun e w' => ∃ G g, e = .returned (.tuple #[.agg #[.int .i64 3, .int .i64 0, .slice none 0 0, .slice G k g, .int .i64 0, .int .i64 0, .int .u16 0, .int .u16 0, .int .u16 0, .int .i64 0, .int .i64 0, .bool false, .int .i64 0, .slice none 0 0], .bool true]) ∧ w'.ownsRow w.heap.size 25 1 (.slice G k g) k ((wordsAt zs 2 k).map (Value.int .u16)) ∧ Below w.heap.size w w' := by
  obtain ⟨b', off', e1, hb, hcell⟩ := hr.2 (by omega)
  injection e1 with e1
  injection e1 with e1 e2
  subst e1 e2
  obtain ⟨hkw1, hkw, hg4, hg2⟩ := box2 w 28 [.int .i64 0, .int .i64 0, .slice none 0 0, .slice none 0 0, .int .i64 0, .int .i64 0, .int .u16 0, .int .u16 0, .int .u16 0, .int .i64 0, .int .i64 0, .bool false, .int .i64 0, .slice none 0 0] [.int .i64 3, .int .i64 0, .slice none 0 0, .slice none 0 0, .int .i64 0, .int .i64 0, .int .u16 0, .int .u16 0, .int .u16 0, .int .i64 0, .int .i64 0, .bool false, .int .i64 0, .slice none 0 0]
  have HCE := Lib.hid (fun X (hX : Below w.heap.size w X) j (hj : j < n) => (hX.cell (p := ⟨b, off + j, none⟩) hb).trans (hcell j hj))
  have hc0 := HCE.out _ hkw1 0 (by omega)
  rw [Nat.add_zero, h0] at hc0
  have HRG := Lib.hid (fun X (hX : Below w.heap.size w X) => (hr.below hX).more hX.size)
  have HX := Lib.hid hx
  have HKW := Lib.hid hkw
  have HG4 := Lib.hid hg4
  have HG2 := Lib.hid hg2
  clear hg4 hg2
  have hn0 : (0 : Int) < (n : Int) := by omega
  have hl2 : ¬ (n : Int) < 2 := by omega
  have hn1 : (1 : Int) < (n : Int) := by omega
  have wti : IntKind.i64.wrap t = t := IntWalk.i64_in _ (by have := hx.at_ 1; change 0 ≤ zs.getD 1 0 ∧ zs.getD 1 0 ≤ 255 at this; omega)
  have HC1 := Lib.hid (fun X (hX : Below w.heap.size w X) => (HCE.out X hX 1 (by omega)).trans (by rw [hu]))
  have hq2 : t.tdiv 2 = t / 2 := Int.tdiv_eq_ediv_of_nonneg (by omega)
  have w64 : wrap64 (t / 2) = t / 2 := IntWalk.wrap64_in (t / 2) (by omega)
  have CU := Lib.hid (fun W (hW : Below w.heap.size w W) => rlist_at (some ⟨b, off, none⟩) n c zs 2 k 2 (t / 2) W rfl (by omega) (HRG.out W hW) hx (by omega) (by omega) (by omega))
  clear hnk
  have hne : (t != (n : Int) - 2) = false := by simp [heq]
  have h2i : (2 : Int) ≤ (n : Int) := by omega
  clear heq hu
  have H0 := Lib.hid h0
  clear hr hcell hkw hkw1 h0
  go_enter Try.func36, Try.ntmps36
  go_upto_region 3 with fail
  obtain ⟨w3, hw3, G4, G2, GB⟩ := named0 HG4 HG2 HKW
  have hz3 : w.heap.size + 1 < w3.heap.size := G4.out.lt
  obtain ⟨hs0, hs1, hs2, hs3, hs4, hs5, hs6, hs7, hs8, hs9, hs10, hs11, hs12, hs13⟩ := cells14 G4.out
  obtain ⟨hp0, hp1, hp2, hp3, hp4, hp5, hp6, hp7, hp8, hp9, hp10, hp11, hp12, hp13⟩ := cells14 G2.out
  obtain ⟨hf0, hf1, hf2, hf3, hf4, hf5, hf6, hf7, hf8, hf9, hf10, hf11, hf12, hf13⟩ := frozen14 G4.out
  obtain ⟨hg0, hg1, hg2, hg3, hg4, hg5, hg6, hg7, hg8, hg9, hg10, hg11, hg12, hg13⟩ := frozen14 G2.out
  rw [hw3]
  clear hw3 hc0 HG4 HG2 HKW
  have hcw : w3.cell? ⟨b, off + 1, none⟩ = some (.int .u8 t) := HC1.out w3 GB.out
  go_wp2_with (first
    | (go_at_call 62
       (with_reducible refine (CU.out _ ?_).mono ?_)
       · exact GB.out
       rintro e w5 ⟨G, g, rfl, ho5, hb5⟩
       have h1 := G4.out.below hb5 G4.out.lt
       have h0' := G2.out.below hb5 G2.out.lt
       have HB5 : Hid (Below w.heap.size w w5) := GB.out.trans (hb5.mono GB.out.size)
       have hz5 : w.heap.size + 1 < w5.heap.size := h1.lt
       obtain ⟨ks0, ks1, ks2, ks3, ks4, ks5, ks6, ks7, ks8, ks9, ks10, ks11, ks12, ks13⟩ := cells14 h1
       obtain ⟨kp0, kp1, kp2, kp3, kp4, kp5, kp6, kp7, kp8, kp9, kp10, kp11, kp12, kp13⟩ := cells14 h0'
       obtain ⟨kf0, kf1, kf2, kf3, kf4, kf5, kf6, kf7, kf8, kf9, kf10, kf11, kf12, kf13⟩ := frozen14 h1
       obtain ⟨kg0, kg1, kg2, kg3, kg4, kg5, kg6, kg7, kg8, kg9, kg10, kg11, kg12, kg13⟩ := frozen14 h0'
       have HH1 := Lib.hid h1
       have HH0 := Lib.hid h0'
       have HO5 : Hid (w5.ownsRow (w.heap.size + 2) 25 1 (.slice G k g) k ((wordsAt zs 2 k).map (Value.int .u16))) := own_mono ho5 (show w.heap.size + 2 ≤ w3.heap.size by omega)
       clear h1 h0' hb5 ho5))
  obtain ⟨X, hX⟩ : ∃ X, (w5.setCell ⟨w.heap.size + 1, 3, none⟩ (.slice G k g)) = X := ⟨_, rfl⟩
  have hx0 := (whole_far HH0.out (show w.heap.size ≠ w.heap.size + 1 by omega) 3 (.slice G k g))
  have hxb := (HB5.out.setCell (p := ⟨w.heap.size + 1, 3, none⟩) (Nat.le_succ _) (.slice G k g))
  have hox := (own_far HO5.out ⟨w.heap.size + 1, 3, none⟩ (show w.heap.size + 1 < w.heap.size + 2 by omega) (.slice G k g))
  rw [hX] at hx0 hxb hox
  rw [hX]
  exact end14 Try.results36 hx0 rfl hxb (Nat.le_refl _) rfl rfl fun w9 hbb hk => ⟨_, _, rfl, own_mono (own_blk hox hk (show w.heap.size < w.heap.size + 2 by omega)) (by omega), hbb⟩

set_option maxRecDepth 100000 in
set_option maxHeartbeats 4000000 in
theorem hrw_no_3 (b off n c : Nat) (zs : List Int) (m : Int) (t : Int) (w : World) (hr : Row .u8 w w.heap.size (some ⟨b, off, none⟩) n zs) (hx : Bytes8 zs) (hn : n ≤ 1000) (h1n : 1 ≤ n) (h0 : zs.getD 0 0 = 3) (hc : n ≤ c) (h2n : 2 ≤ n) (hu : zs.getD 1 0 = t) (heq : t = (n : Int) - 2) (hodd : n % 2 = 1) :
    Calls Try.prog 36 #[.slice (some ⟨b, off, none⟩) n c, .int .i64 m] w fun e w' => e = .returned (.tuple #[.agg #[.int .i64 3, .int .i64 0, .slice none 0 0, .slice none 0 0, .int .i64 0, .int .i64 0, .int .u16 0, .int .u16 0, .int .u16 0, .int .i64 0, .int .i64 0, .bool false, .int .i64 0, .slice none 0 0], .bool false]) ∧ Below w.heap.size w w' := by
  obtain ⟨b', off', e1, hb, hcell⟩ := hr.2 (by omega)
  injection e1 with e1
  injection e1 with e1 e2
  subst e1 e2
  obtain ⟨hkw1, hkw, hg4, hg2⟩ := box2 w 28 [.int .i64 0, .int .i64 0, .slice none 0 0, .slice none 0 0, .int .i64 0, .int .i64 0, .int .u16 0, .int .u16 0, .int .u16 0, .int .i64 0, .int .i64 0, .bool false, .int .i64 0, .slice none 0 0] [.int .i64 3, .int .i64 0, .slice none 0 0, .slice none 0 0, .int .i64 0, .int .i64 0, .int .u16 0, .int .u16 0, .int .u16 0, .int .i64 0, .int .i64 0, .bool false, .int .i64 0, .slice none 0 0]
  have HCE := Lib.hid (fun X (hX : Below w.heap.size w X) j (hj : j < n) => (hX.cell (p := ⟨b, off + j, none⟩) hb).trans (hcell j hj))
  have hc0 := HCE.out _ hkw1 0 (by omega)
  rw [Nat.add_zero, h0] at hc0
  have HRG := Lib.hid (fun X (hX : Below w.heap.size w X) => (hr.below hX).more hX.size)
  have HX := Lib.hid hx
  have HKW := Lib.hid hkw
  have HG4 := Lib.hid hg4
  have HG2 := Lib.hid hg2
  clear hg4 hg2
  have hn0 : (0 : Int) < (n : Int) := by omega
  have hl2 : ¬ (n : Int) < 2 := by omega
  have hn1 : (1 : Int) < (n : Int) := by omega
  have wti : IntKind.i64.wrap t = t := IntWalk.i64_in _ (by have := hx.at_ 1; change 0 ≤ zs.getD 1 0 ∧ zs.getD 1 0 ≤ 255 at this; omega)
  have HC1 := Lib.hid (fun X (hX : Below w.heap.size w X) => (HCE.out X hX 1 (by omega)).trans (by rw [hu]))
  have hq2 : t.tdiv 2 = t / 2 := Int.tdiv_eq_ediv_of_nonneg (by omega)
  have w64 : wrap64 (t / 2) = t / 2 := IntWalk.wrap64_in (t / 2) (by omega)
  have CU := Lib.hid (fun W => rlist_no (some ⟨b, off, none⟩) n c 2 (t / 2) W (by omega) (by omega) (by omega) (by omega) (by omega))
  clear hodd
  have hne : (t != (n : Int) - 2) = false := by simp [heq]
  have h2i : (2 : Int) ≤ (n : Int) := by omega
  clear heq hu
  have H0 := Lib.hid h0
  clear hr hcell hkw hkw1 h0
  go_enter Try.func36, Try.ntmps36
  go_upto_region 3 with fail
  obtain ⟨w3, hw3, G4, G2, GB⟩ := named0 HG4 HG2 HKW
  have hz3 : w.heap.size + 1 < w3.heap.size := G4.out.lt
  obtain ⟨hs0, hs1, hs2, hs3, hs4, hs5, hs6, hs7, hs8, hs9, hs10, hs11, hs12, hs13⟩ := cells14 G4.out
  obtain ⟨hp0, hp1, hp2, hp3, hp4, hp5, hp6, hp7, hp8, hp9, hp10, hp11, hp12, hp13⟩ := cells14 G2.out
  obtain ⟨hf0, hf1, hf2, hf3, hf4, hf5, hf6, hf7, hf8, hf9, hf10, hf11, hf12, hf13⟩ := frozen14 G4.out
  obtain ⟨hg0, hg1, hg2, hg3, hg4, hg5, hg6, hg7, hg8, hg9, hg10, hg11, hg12, hg13⟩ := frozen14 G2.out
  rw [hw3]
  clear hw3 hc0 HG4 HG2 HKW
  have hcw : w3.cell? ⟨b, off + 1, none⟩ = some (.int .u8 t) := HC1.out w3 GB.out
  go_wp2_with (first
    | (go_at_call 62; (with_reducible refine (CU.out _).mono ?_); rintro e w5 ⟨rfl, rfl⟩))
  obtain ⟨X, hX⟩ : ∃ X, (w3.setCell ⟨w.heap.size + 1, 3, none⟩ (.slice none 0 0)) = X := ⟨_, rfl⟩
  have hx0 := (whole_far G2.out (show w.heap.size ≠ w.heap.size + 1 by omega) 3 (.slice none 0 0))
  have hxb := (GB.out.setCell (p := ⟨w.heap.size + 1, 3, none⟩) (Nat.le_succ _) (.slice none 0 0))
  rw [hX] at hx0 hxb
  rw [hX]
  exact end14 Try.results36 hx0 rfl hxb (Nat.le_refl _) rfl rfl fun w9 hbb hk => ⟨rfl, hbb⟩

set_option maxRecDepth 100000 in
set_option maxHeartbeats 4000000 in
theorem hrw_yes_4 (b off n c : Nat) (zs : List Int) (m : Int) (t : Int) (k : Nat) (w : World) (hr : Row .u8 w w.heap.size (some ⟨b, off, none⟩) n zs) (hx : Bytes8 zs) (hn : n ≤ 1000) (h1n : 1 ≤ n) (h0 : zs.getD 0 0 = 4) (hc : n ≤ c) (h2n : 2 ≤ n) (hu : zs.getD 1 0 = t) (heq : t = (n : Int) - 2) (hnk : n = 2 + 2 * k) :
    Calls Try.prog 36 #[.slice (some ⟨b, off, none⟩) n c, .int .i64 m] w fun e w' => ∃ G g, e = .returned (.tuple #[.agg #[.int .i64 4, .int .i64 0, .slice none 0 0, .slice G k g, .int .i64 0, .int .i64 0, .int .u16 0, .int .u16 0, .int .u16 0, .int .i64 0, .int .i64 0, .bool false, .int .i64 0, .slice none 0 0], .bool true]) ∧ w'.ownsRow w.heap.size 25 1 (.slice G k g) k ((wordsAt zs 2 k).map (Value.int .u16)) ∧ Below w.heap.size w w' := by
  obtain ⟨b', off', e1, hb, hcell⟩ := hr.2 (by omega)
  injection e1 with e1
  injection e1 with e1 e2
  subst e1 e2
  obtain ⟨hkw1, hkw, hg4, hg2⟩ := box2 w 28 [.int .i64 0, .int .i64 0, .slice none 0 0, .slice none 0 0, .int .i64 0, .int .i64 0, .int .u16 0, .int .u16 0, .int .u16 0, .int .i64 0, .int .i64 0, .bool false, .int .i64 0, .slice none 0 0] [.int .i64 4, .int .i64 0, .slice none 0 0, .slice none 0 0, .int .i64 0, .int .i64 0, .int .u16 0, .int .u16 0, .int .u16 0, .int .i64 0, .int .i64 0, .bool false, .int .i64 0, .slice none 0 0]
  have HCE := Lib.hid (fun X (hX : Below w.heap.size w X) j (hj : j < n) => (hX.cell (p := ⟨b, off + j, none⟩) hb).trans (hcell j hj))
  have hc0 := HCE.out _ hkw1 0 (by omega)
  rw [Nat.add_zero, h0] at hc0
  have HRG := Lib.hid (fun X (hX : Below w.heap.size w X) => (hr.below hX).more hX.size)
  have HX := Lib.hid hx
  have HKW := Lib.hid hkw
  have HG4 := Lib.hid hg4
  have HG2 := Lib.hid hg2
  clear hg4 hg2
  have hn0 : (0 : Int) < (n : Int) := by omega
  have hl2 : ¬ (n : Int) < 2 := by omega
  have hn1 : (1 : Int) < (n : Int) := by omega
  have wti : IntKind.i64.wrap t = t := IntWalk.i64_in _ (by have := hx.at_ 1; change 0 ≤ zs.getD 1 0 ∧ zs.getD 1 0 ≤ 255 at this; omega)
  have HC1 := Lib.hid (fun X (hX : Below w.heap.size w X) => (HCE.out X hX 1 (by omega)).trans (by rw [hu]))
  have hq2 : t.tdiv 2 = t / 2 := Int.tdiv_eq_ediv_of_nonneg (by omega)
  have w64 : wrap64 (t / 2) = t / 2 := IntWalk.wrap64_in (t / 2) (by omega)
  have CU := Lib.hid (fun W (hW : Below w.heap.size w W) => rlist_at (some ⟨b, off, none⟩) n c zs 2 k 2 (t / 2) W rfl (by omega) (HRG.out W hW) hx (by omega) (by omega) (by omega))
  clear hnk
  have hne : (t != (n : Int) - 2) = false := by simp [heq]
  have h2i : (2 : Int) ≤ (n : Int) := by omega
  clear heq hu
  have H0 := Lib.hid h0
  clear hr hcell hkw hkw1 h0
  go_enter Try.func36, Try.ntmps36
  go_upto_region 3 with fail
  obtain ⟨w3, hw3, G4, G2, GB⟩ := named0 HG4 HG2 HKW
  have hz3 : w.heap.size + 1 < w3.heap.size := G4.out.lt
  obtain ⟨hs0, hs1, hs2, hs3, hs4, hs5, hs6, hs7, hs8, hs9, hs10, hs11, hs12, hs13⟩ := cells14 G4.out
  obtain ⟨hp0, hp1, hp2, hp3, hp4, hp5, hp6, hp7, hp8, hp9, hp10, hp11, hp12, hp13⟩ := cells14 G2.out
  obtain ⟨hf0, hf1, hf2, hf3, hf4, hf5, hf6, hf7, hf8, hf9, hf10, hf11, hf12, hf13⟩ := frozen14 G4.out
  obtain ⟨hg0, hg1, hg2, hg3, hg4, hg5, hg6, hg7, hg8, hg9, hg10, hg11, hg12, hg13⟩ := frozen14 G2.out
  rw [hw3]
  clear hw3 hc0 HG4 HG2 HKW
  have hcw : w3.cell? ⟨b, off + 1, none⟩ = some (.int .u8 t) := HC1.out w3 GB.out
  go_wp2_with (first
    | (go_at_call 62
       (with_reducible refine (CU.out _ ?_).mono ?_)
       · exact GB.out
       rintro e w5 ⟨G, g, rfl, ho5, hb5⟩
       have h1 := G4.out.below hb5 G4.out.lt
       have h0' := G2.out.below hb5 G2.out.lt
       have HB5 : Hid (Below w.heap.size w w5) := GB.out.trans (hb5.mono GB.out.size)
       have hz5 : w.heap.size + 1 < w5.heap.size := h1.lt
       obtain ⟨ks0, ks1, ks2, ks3, ks4, ks5, ks6, ks7, ks8, ks9, ks10, ks11, ks12, ks13⟩ := cells14 h1
       obtain ⟨kp0, kp1, kp2, kp3, kp4, kp5, kp6, kp7, kp8, kp9, kp10, kp11, kp12, kp13⟩ := cells14 h0'
       obtain ⟨kf0, kf1, kf2, kf3, kf4, kf5, kf6, kf7, kf8, kf9, kf10, kf11, kf12, kf13⟩ := frozen14 h1
       obtain ⟨kg0, kg1, kg2, kg3, kg4, kg5, kg6, kg7, kg8, kg9, kg10, kg11, kg12, kg13⟩ := frozen14 h0'
       have HH1 := Lib.hid h1
       have HH0 := Lib.hid h0'
       have HO5 : Hid (w5.ownsRow (w.heap.size + 2) 25 1 (.slice G k g) k ((wordsAt zs 2 k).map (Value.int .u16))) := own_mono ho5 (show w.heap.size + 2 ≤ w3.heap.size by omega)
       clear h1 h0' hb5 ho5))
  obtain ⟨X, hX⟩ : ∃ X, (w5.setCell ⟨w.heap.size + 1, 3, none⟩ (.slice G k g)) = X := ⟨_, rfl⟩
  have hx0 := (whole_far HH0.out (show w.heap.size ≠ w.heap.size + 1 by omega) 3 (.slice G k g))
  have hxb := (HB5.out.setCell (p := ⟨w.heap.size + 1, 3, none⟩) (Nat.le_succ _) (.slice G k g))
  have hox := (own_far HO5.out ⟨w.heap.size + 1, 3, none⟩ (show w.heap.size + 1 < w.heap.size + 2 by omega) (.slice G k g))
  rw [hX] at hx0 hxb hox
  rw [hX]
  exact end14 Try.results36 hx0 rfl hxb (Nat.le_refl _) rfl rfl fun w9 hbb hk => ⟨_, _, rfl, own_mono (own_blk hox hk (show w.heap.size < w.heap.size + 2 by omega)) (by omega), hbb⟩

set_option maxRecDepth 100000 in
set_option maxHeartbeats 4000000 in
theorem hrw_no_4 (b off n c : Nat) (zs : List Int) (m : Int) (t : Int) (w : World) (hr : Row .u8 w w.heap.size (some ⟨b, off, none⟩) n zs) (hx : Bytes8 zs) (hn : n ≤ 1000) (h1n : 1 ≤ n) (h0 : zs.getD 0 0 = 4) (hc : n ≤ c) (h2n : 2 ≤ n) (hu : zs.getD 1 0 = t) (heq : t = (n : Int) - 2) (hodd : n % 2 = 1) :
    Calls Try.prog 36 #[.slice (some ⟨b, off, none⟩) n c, .int .i64 m] w fun e w' => e = .returned (.tuple #[.agg #[.int .i64 4, .int .i64 0, .slice none 0 0, .slice none 0 0, .int .i64 0, .int .i64 0, .int .u16 0, .int .u16 0, .int .u16 0, .int .i64 0, .int .i64 0, .bool false, .int .i64 0, .slice none 0 0], .bool false]) ∧ Below w.heap.size w w' := by
  obtain ⟨b', off', e1, hb, hcell⟩ := hr.2 (by omega)
  injection e1 with e1
  injection e1 with e1 e2
  subst e1 e2
  obtain ⟨hkw1, hkw, hg4, hg2⟩ := box2 w 28 [.int .i64 0, .int .i64 0, .slice none 0 0, .slice none 0 0, .int .i64 0, .int .i64 0, .int .u16 0, .int .u16 0, .int .u16 0, .int .i64 0, .int .i64 0, .bool false, .int .i64 0, .slice none 0 0] [.int .i64 4, .int .i64 0, .slice none 0 0, .slice none 0 0, .int .i64 0, .int .i64 0, .int .u16 0, .int .u16 0, .int .u16 0, .int .i64 0, .int .i64 0, .bool false, .int .i64 0, .slice none 0 0]
  have HCE := Lib.hid (fun X (hX : Below w.heap.size w X) j (hj : j < n) => (hX.cell (p := ⟨b, off + j, none⟩) hb).trans (hcell j hj))
  have hc0 := HCE.out _ hkw1 0 (by omega)
  rw [Nat.add_zero, h0] at hc0
  have HRG := Lib.hid (fun X (hX : Below w.heap.size w X) => (hr.below hX).more hX.size)
  have HX := Lib.hid hx
  have HKW := Lib.hid hkw
  have HG4 := Lib.hid hg4
  have HG2 := Lib.hid hg2
  clear hg4 hg2
  have hn0 : (0 : Int) < (n : Int) := by omega
  have hl2 : ¬ (n : Int) < 2 := by omega
  have hn1 : (1 : Int) < (n : Int) := by omega
  have wti : IntKind.i64.wrap t = t := IntWalk.i64_in _ (by have := hx.at_ 1; change 0 ≤ zs.getD 1 0 ∧ zs.getD 1 0 ≤ 255 at this; omega)
  have HC1 := Lib.hid (fun X (hX : Below w.heap.size w X) => (HCE.out X hX 1 (by omega)).trans (by rw [hu]))
  have hq2 : t.tdiv 2 = t / 2 := Int.tdiv_eq_ediv_of_nonneg (by omega)
  have w64 : wrap64 (t / 2) = t / 2 := IntWalk.wrap64_in (t / 2) (by omega)
  have CU := Lib.hid (fun W => rlist_no (some ⟨b, off, none⟩) n c 2 (t / 2) W (by omega) (by omega) (by omega) (by omega) (by omega))
  clear hodd
  have hne : (t != (n : Int) - 2) = false := by simp [heq]
  have h2i : (2 : Int) ≤ (n : Int) := by omega
  clear heq hu
  have H0 := Lib.hid h0
  clear hr hcell hkw hkw1 h0
  go_enter Try.func36, Try.ntmps36
  go_upto_region 3 with fail
  obtain ⟨w3, hw3, G4, G2, GB⟩ := named0 HG4 HG2 HKW
  have hz3 : w.heap.size + 1 < w3.heap.size := G4.out.lt
  obtain ⟨hs0, hs1, hs2, hs3, hs4, hs5, hs6, hs7, hs8, hs9, hs10, hs11, hs12, hs13⟩ := cells14 G4.out
  obtain ⟨hp0, hp1, hp2, hp3, hp4, hp5, hp6, hp7, hp8, hp9, hp10, hp11, hp12, hp13⟩ := cells14 G2.out
  obtain ⟨hf0, hf1, hf2, hf3, hf4, hf5, hf6, hf7, hf8, hf9, hf10, hf11, hf12, hf13⟩ := frozen14 G4.out
  obtain ⟨hg0, hg1, hg2, hg3, hg4, hg5, hg6, hg7, hg8, hg9, hg10, hg11, hg12, hg13⟩ := frozen14 G2.out
  rw [hw3]
  clear hw3 hc0 HG4 HG2 HKW
  have hcw : w3.cell? ⟨b, off + 1, none⟩ = some (.int .u8 t) := HC1.out w3 GB.out
  go_wp2_with (first
    | (go_at_call 62; (with_reducible refine (CU.out _).mono ?_); rintro e w5 ⟨rfl, rfl⟩))
  obtain ⟨X, hX⟩ : ∃ X, (w3.setCell ⟨w.heap.size + 1, 3, none⟩ (.slice none 0 0)) = X := ⟨_, rfl⟩
  have hx0 := (whole_far G2.out (show w.heap.size ≠ w.heap.size + 1 by omega) 3 (.slice none 0 0))
  have hxb := (GB.out.setCell (p := ⟨w.heap.size + 1, 3, none⟩) (Nat.le_succ _) (.slice none 0 0))
  rw [hX] at hx0 hxb
  rw [hX]
  exact end14 Try.results36 hx0 rfl hxb (Nat.le_refl _) rfl rfl fun w9 hbb hk => ⟨rfl, hbb⟩

set_option maxRecDepth 100000 in
set_option maxHeartbeats 4000000 in
theorem hrw_yes_23 (b off n c : Nat) (zs : List Int) (m : Int) (t : Int) (k : Nat) (w : World) (hr : Row .u8 w w.heap.size (some ⟨b, off, none⟩) n zs) (hx : Bytes8 zs) (hn : n ≤ 1000) (h1n : 1 ≤ n) (h0 : zs.getD 0 0 = 23) (hc : n ≤ c) (h2n : 2 ≤ n) (hu : zs.getD 1 0 = t) (heq : t = (n : Int) - 2) (hnk : n = 2 + 2 * k) :
    Calls Try.prog 36 #[.slice (some ⟨b, off, none⟩) n c, .int .i64 m] w fun e w' => ∃ G g, e = .returned (.tuple #[.agg #[.int .i64 23, .int .i64 0, .slice none 0 0, .slice G k g, .int .i64 0, .int .i64 0, .int .u16 0, .int .u16 0, .int .u16 0, .int .i64 0, .int .i64 0, .bool false, .int .i64 0, .slice none 0 0], .bool true]) ∧ w'.ownsRow w.heap.size 25 1 (.slice G k g) k ((wordsAt zs 2 k).map (Value.int .u16)) ∧ Below w.heap.size w w' := by
  obtain ⟨b', off', e1, hb, hcell⟩ := hr.2 (by omega)
  injection e1 with e1
  injection e1 with e1 e2
  subst e1 e2
  obtain ⟨hkw1, hkw, hg4, hg2⟩ := box2 w 28 [.int .i64 0, .int .i64 0, .slice none 0 0, .slice none 0 0, .int .i64 0, .int .i64 0, .int .u16 0, .int .u16 0, .int .u16 0, .int .i64 0, .int .i64 0, .bool false, .int .i64 0, .slice none 0 0] [.int .i64 23, .int .i64 0, .slice none 0 0, .slice none 0 0, .int .i64 0, .int .i64 0, .int .u16 0, .int .u16 0, .int .u16 0, .int .i64 0, .int .i64 0, .bool false, .int .i64 0, .slice none 0 0]
  have HCE := Lib.hid (fun X (hX : Below w.heap.size w X) j (hj : j < n) => (hX.cell (p := ⟨b, off + j, none⟩) hb).trans (hcell j hj))
  have hc0 := HCE.out _ hkw1 0 (by omega)
  rw [Nat.add_zero, h0] at hc0
  have HRG := Lib.hid (fun X (hX : Below w.heap.size w X) => (hr.below hX).more hX.size)
  have HX := Lib.hid hx
  have HKW := Lib.hid hkw
  have HG4 := Lib.hid hg4
  have HG2 := Lib.hid hg2
  clear hg4 hg2
  have hn0 : (0 : Int) < (n : Int) := by omega
  have hl2 : ¬ (n : Int) < 2 := by omega
  have hn1 : (1 : Int) < (n : Int) := by omega
  have wti : IntKind.i64.wrap t = t := IntWalk.i64_in _ (by have := hx.at_ 1; change 0 ≤ zs.getD 1 0 ∧ zs.getD 1 0 ≤ 255 at this; omega)
  have HC1 := Lib.hid (fun X (hX : Below w.heap.size w X) => (HCE.out X hX 1 (by omega)).trans (by rw [hu]))
  have hq2 : t.tdiv 2 = t / 2 := Int.tdiv_eq_ediv_of_nonneg (by omega)
  have w64 : wrap64 (t / 2) = t / 2 := IntWalk.wrap64_in (t / 2) (by omega)
  have CU := Lib.hid (fun W (hW : Below w.heap.size w W) => rlist_at (some ⟨b, off, none⟩) n c zs 2 k 2 (t / 2) W rfl (by omega) (HRG.out W hW) hx (by omega) (by omega) (by omega))
  clear hnk
  have hne : (t != (n : Int) - 2) = false := by simp [heq]
  have h2i : (2 : Int) ≤ (n : Int) := by omega
  clear heq hu
  have H0 := Lib.hid h0
  clear hr hcell hkw hkw1 h0
  go_enter Try.func36, Try.ntmps36
  go_upto_region 3 with fail
  obtain ⟨w3, hw3, G4, G2, GB⟩ := named0 HG4 HG2 HKW
  have hz3 : w.heap.size + 1 < w3.heap.size := G4.out.lt
  obtain ⟨hs0, hs1, hs2, hs3, hs4, hs5, hs6, hs7, hs8, hs9, hs10, hs11, hs12, hs13⟩ := cells14 G4.out
  obtain ⟨hp0, hp1, hp2, hp3, hp4, hp5, hp6, hp7, hp8, hp9, hp10, hp11, hp12, hp13⟩ := cells14 G2.out
  obtain ⟨hf0, hf1, hf2, hf3, hf4, hf5, hf6, hf7, hf8, hf9, hf10, hf11, hf12, hf13⟩ := frozen14 G4.out
  obtain ⟨hg0, hg1, hg2, hg3, hg4, hg5, hg6, hg7, hg8, hg9, hg10, hg11, hg12, hg13⟩ := frozen14 G2.out
  rw [hw3]
  clear hw3 hc0 HG4 HG2 HKW
  have hcw : w3.cell? ⟨b, off + 1, none⟩ = some (.int .u8 t) := HC1.out w3 GB.out
  go_wp2_with (first
    | (go_at_call 62
       (with_reducible refine (CU.out _ ?_).mono ?_)
       · exact GB.out
       rintro e w5 ⟨G, g, rfl, ho5, hb5⟩
       have h1 := G4.out.below hb5 G4.out.lt
       have h0' := G2.out.below hb5 G2.out.lt
       have HB5 : Hid (Below w.heap.size w w5) := GB.out.trans (hb5.mono GB.out.size)
       have hz5 : w.heap.size + 1 < w5.heap.size := h1.lt
       obtain ⟨ks0, ks1, ks2, ks3, ks4, ks5, ks6, ks7, ks8, ks9, ks10, ks11, ks12, ks13⟩ := cells14 h1
       obtain ⟨kp0, kp1, kp2, kp3, kp4, kp5, kp6, kp7, kp8, kp9, kp10, kp11, kp12, kp13⟩ := cells14 h0'
       obtain ⟨kf0, kf1, kf2, kf3, kf4, kf5, kf6, kf7, kf8, kf9, kf10, kf11, kf12, kf13⟩ := frozen14 h1
       obtain ⟨kg0, kg1, kg2, kg3, kg4, kg5, kg6, kg7, kg8, kg9, kg10, kg11, kg12, kg13⟩ := frozen14 h0'
       have HH1 := Lib.hid h1
       have HH0 := Lib.hid h0'
       have HO5 : Hid (w5.ownsRow (w.heap.size + 2) 25 1 (.slice G k g) k ((wordsAt zs 2 k).map (Value.int .u16))) := own_mono ho5 (show w.heap.size + 2 ≤ w3.heap.size by omega)
       clear h1 h0' hb5 ho5))
  obtain ⟨X, hX⟩ : ∃ X, (w5.setCell ⟨w.heap.size + 1, 3, none⟩ (.slice G k g)) = X := ⟨_, rfl⟩
  have hx0 := (whole_far HH0.out (show w.heap.size ≠ w.heap.size + 1 by omega) 3 (.slice G k g))
  have hxb := (HB5.out.setCell (p := ⟨w.heap.size + 1, 3, none⟩) (Nat.le_succ _) (.slice G k g))
  have hox := (own_far HO5.out ⟨w.heap.size + 1, 3, none⟩ (show w.heap.size + 1 < w.heap.size + 2 by omega) (.slice G k g))
  rw [hX] at hx0 hxb hox
  rw [hX]
  exact end14 Try.results36 hx0 rfl hxb (Nat.le_refl _) rfl rfl fun w9 hbb hk => ⟨_, _, rfl, own_mono (own_blk hox hk (show w.heap.size < w.heap.size + 2 by omega)) (by omega), hbb⟩

set_option maxRecDepth 100000 in
set_option maxHeartbeats 4000000 in
theorem hrw_no_23 (b off n c : Nat) (zs : List Int) (m : Int) (t : Int) (w : World) (hr : Row .u8 w w.heap.size (some ⟨b, off, none⟩) n zs) (hx : Bytes8 zs) (hn : n ≤ 1000) (h1n : 1 ≤ n) (h0 : zs.getD 0 0 = 23) (hc : n ≤ c) (h2n : 2 ≤ n) (hu : zs.getD 1 0 = t) (heq : t = (n : Int) - 2) (hodd : n % 2 = 1) :
    Calls Try.prog 36 #[.slice (some ⟨b, off, none⟩) n c, .int .i64 m] w fun e w' => e = .returned (.tuple #[.agg #[.int .i64 23, .int .i64 0, .slice none 0 0, .slice none 0 0, .int .i64 0, .int .i64 0, .int .u16 0, .int .u16 0, .int .u16 0, .int .i64 0, .int .i64 0, .bool false, .int .i64 0, .slice none 0 0], .bool false]) ∧ Below w.heap.size w w' := by
  obtain ⟨b', off', e1, hb, hcell⟩ := hr.2 (by omega)
  injection e1 with e1
  injection e1 with e1 e2
  subst e1 e2
  obtain ⟨hkw1, hkw, hg4, hg2⟩ := box2 w 28 [.int .i64 0, .int .i64 0, .slice none 0 0, .slice none 0 0, .int .i64 0, .int .i64 0, .int .u16 0, .int .u16 0, .int .u16 0, .int .i64 0, .int .i64 0, .bool false, .int .i64 0, .slice none 0 0] [.int .i64 23, .int .i64 0, .slice none 0 0, .slice none 0 0, .int .i64 0, .int .i64 0, .int .u16 0, .int .u16 0, .int .u16 0, .int .i64 0, .int .i64 0, .bool false, .int .i64 0, .slice none 0 0]
  have HCE := Lib.hid (fun X (hX : Below w.heap.size w X) j (hj : j < n) => (hX.cell (p := ⟨b, off + j, none⟩) hb).trans (hcell j hj))
  have hc0 := HCE.out _ hkw1 0 (by omega)
  rw [Nat.add_zero, h0] at hc0
  have HRG := Lib.hid (fun X (hX : Below w.heap.size w X) => (hr.below hX).more hX.size)
  have HX := Lib.hid hx
  have HKW := Lib.hid hkw
  have HG4 := Lib.hid hg4
  have HG2 := Lib.hid hg2
  clear hg4 hg2
  have hn0 : (0 : Int) < (n : Int) := by omega
  have hl2 : ¬ (n : Int) < 2 := by omega
  have hn1 : (1 : Int) < (n : Int) := by omega
  have wti : IntKind.i64.wrap t = t := IntWalk.i64_in _ (by have := hx.at_ 1; change 0 ≤ zs.getD 1 0 ∧ zs.getD 1 0 ≤ 255 at this; omega)
  have HC1 := Lib.hid (fun X (hX : Below w.heap.size w X) => (HCE.out X hX 1 (by omega)).trans (by rw [hu]))
  have hq2 : t.tdiv 2 = t / 2 := Int.tdiv_eq_ediv_of_nonneg (by omega)
  have w64 : wrap64 (t / 2) = t / 2 := IntWalk.wrap64_in (t / 2) (by omega)
  have CU := Lib.hid (fun W => rlist_no (some ⟨b, off, none⟩) n c 2 (t / 2) W (by omega) (by omega) (by omega) (by omega) (by omega))
  clear hodd
  have hne : (t != (n : Int) - 2) = false := by simp [heq]
  have h2i : (2 : Int) ≤ (n : Int) := by omega
  clear heq hu
  have H0 := Lib.hid h0
  clear hr hcell hkw hkw1 h0
  go_enter Try.func36, Try.ntmps36
  go_upto_region 3 with fail
  obtain ⟨w3, hw3, G4, G2, GB⟩ := named0 HG4 HG2 HKW
  have hz3 : w.heap.size + 1 < w3.heap.size := G4.out.lt
  obtain ⟨hs0, hs1, hs2, hs3, hs4, hs5, hs6, hs7, hs8, hs9, hs10, hs11, hs12, hs13⟩ := cells14 G4.out
  obtain ⟨hp0, hp1, hp2, hp3, hp4, hp5, hp6, hp7, hp8, hp9, hp10, hp11, hp12, hp13⟩ := cells14 G2.out
  obtain ⟨hf0, hf1, hf2, hf3, hf4, hf5, hf6, hf7, hf8, hf9, hf10, hf11, hf12, hf13⟩ := frozen14 G4.out
  obtain ⟨hg0, hg1, hg2, hg3, hg4, hg5, hg6, hg7, hg8, hg9, hg10, hg11, hg12, hg13⟩ := frozen14 G2.out
  rw [hw3]
  clear hw3 hc0 HG4 HG2 HKW
  have hcw : w3.cell? ⟨b, off + 1, none⟩ = some (.int .u8 t) := HC1.out w3 GB.out
  go_wp2_with (first
    | (go_at_call 62; (with_reducible refine (CU.out _).mono ?_); rintro e w5 ⟨rfl, rfl⟩))
  obtain ⟨X, hX⟩ : ∃ X, (w3.setCell ⟨w.heap.size + 1, 3, none⟩ (.slice none 0 0)) = X := ⟨_, rfl⟩
  have hx0 := (whole_far G2.out (show w.heap.size ≠ w.heap.size + 1 by omega) 3 (.slice none 0 0))
  have hxb := (GB.out.setCell (p := ⟨w.heap.size + 1, 3, none⟩) (Nat.le_succ _) (.slice none 0 0))
  rw [hX] at hx0 hxb
  rw [hX]
  exact end14 Try.results36 hx0 rfl hxb (Nat.le_refl _) rfl rfl fun w9 hbb hk => ⟨rfl, hbb⟩

set_option maxRecDepth 100000 in
set_option maxHeartbeats 4000000 in
theorem hrd_43_few (b off n c : Nat) (zs : List Int) (m : Int) (w : World) (hr : Row .u8 w w.heap.size (some ⟨b, off, none⟩) n zs) (hx : Bytes8 zs) (hn : n ≤ 1000) (h1n : 1 ≤ n) (h0 : zs.getD 0 0 = 43) (hc : n ≤ c) (hfew : n < 7) :
    Calls Try.prog 36 #[.slice (some ⟨b, off, none⟩) n c, .int .i64 m] w fun e w' => e = .returned (.tuple #[.agg #[.int .i64 43, .int .i64 0, .slice none 0 0, .slice none 0 0, .int .i64 0, .int .i64 0, .int .u16 0, .int .u16 0, .int .u16 0, .int .i64 0, .int .i64 0, .bool false, .int .i64 0, .slice none 0 0], .bool false]) ∧ Below w.heap.size w w' := by
  obtain ⟨b', off', e1, hb, hcell⟩ := hr.2 (by omega)
  injection e1 with e1
  injection e1 with e1 e2
  subst e1 e2
  obtain ⟨hkw1, hkw, hg4, hg2⟩ := box2 w 28 [.int .i64 0, .int .i64 0, .slice none 0 0, .slice none 0 0, .int .i64 0, .int .i64 0, .int .u16 0, .int .u16 0, .int .u16 0, .int .i64 0, .int .i64 0, .bool false, .int .i64 0, .slice none 0 0] [.int .i64 43, .int .i64 0, .slice none 0 0, .slice none 0 0, .int .i64 0, .int .i64 0, .int .u16 0, .int .u16 0, .int .u16 0, .int .i64 0, .int .i64 0, .bool false, .int .i64 0, .slice none 0 0]
  have HCE := Lib.hid (fun X (hX : Below w.heap.size w X) j (hj : j < n) => (hX.cell (p := ⟨b, off + j, none⟩) hb).trans (hcell j hj))
  have hc0 := HCE.out _ hkw1 0 (by omega)
  rw [Nat.add_zero, h0] at hc0
  have HRG := Lib.hid (fun X (hX : Below w.heap.size w X) => (hr.below hX).more hX.size)
  have HX := Lib.hid hx
  have HKW := Lib.hid hkw
  have HG4 := Lib.hid hg4
  have HG2 := Lib.hid hg2
  clear hg4 hg2
  have hn0 : (0 : Int) < (n : Int) := by omega
  have CU := Lib.hid (fun W (hW : Below w.heap.size w W) => told_few b off n c zs W (HRG.out W hW) hx hn h1n h0 hc hfew)
  have H0 := Lib.hid h0
  clear hr hcell hkw hkw1 h0
  go_enter Try.func36, Try.ntmps36
  go_upto_region 3 with fail
  obtain ⟨w3, hw3, G4, G2, GB⟩ := named0 HG4 HG2 HKW
  have hz3 : w.heap.size + 1 < w3.heap.size := G4.out.lt
  obtain ⟨hs0, hs1, hs2, hs3, hs4, hs5, hs6, hs7, hs8, hs9, hs10, hs11, hs12, hs13⟩ := cells14 G4.out
  obtain ⟨hp0, hp1, hp2, hp3, hp4, hp5, hp6, hp7, hp8, hp9, hp10, hp11, hp12, hp13⟩ := cells14 G2.out
  obtain ⟨hf0, hf1, hf2, hf3, hf4, hf5, hf6, hf7, hf8, hf9, hf10, hf11, hf12, hf13⟩ := frozen14 G4.out
  obtain ⟨hg0, hg1, hg2, hg3, hg4, hg5, hg6, hg7, hg8, hg9, hg10, hg11, hg12, hg13⟩ := frozen14 G2.out
  rw [hw3]
  clear hw3 hc0 HG4 HG2 HKW
  go_wp2_with (first
    | (go_at_call 64
       (with_reducible refine (CU.out _ ?_).mono ?_)
       · exact GB.out
       rintro e w5 ⟨rfl, hb5⟩
       have h1 := G4.out.below hb5 G4.out.lt
       have h0' := G2.out.below hb5 G2.out.lt
       have HB5 : Hid (Below w.heap.size w w5) := GB.out.trans (hb5.mono GB.out.size)
       have hz5 : w.heap.size + 1 < w5.heap.size := h1.lt
       obtain ⟨ks0, ks1, ks2, ks3, ks4, ks5, ks6, ks7, ks8, ks9, ks10, ks11, ks12, ks13⟩ := cells14 h1
       obtain ⟨kp0, kp1, kp2, kp3, kp4, kp5, kp6, kp7, kp8, kp9, kp10, kp11, kp12, kp13⟩ := cells14 h0'
       obtain ⟨kf0, kf1, kf2, kf3, kf4, kf5, kf6, kf7, kf8, kf9, kf10, kf11, kf12, kf13⟩ := frozen14 h1
       obtain ⟨kg0, kg1, kg2, kg3, kg4, kg5, kg6, kg7, kg8, kg9, kg10, kg11, kg12, kg13⟩ := frozen14 h0'
       have HH1 := Lib.hid h1
       have HH0 := Lib.hid h0'
       clear h1 h0' hb5))
  obtain ⟨X, hX⟩ : ∃ X, w5 = X := ⟨_, rfl⟩
  have hx0 := HH0.out
  have hxb := HB5.out
  rw [hX] at hx0 hxb
  rw [hX]
  exact end14 Try.results36 hx0 rfl hxb (Nat.le_refl _) rfl rfl fun w9 hbb hk => ⟨rfl, hbb⟩

set_option maxRecDepth 100000 in
set_option maxHeartbeats 4000000 in
theorem hrd_43_no1 (b off n c : Nat) (zs : List Int) (m : Int) (w : World) (hr : Row .u8 w w.heap.size (some ⟨b, off, none⟩) n zs) (hx : Bytes8 zs) (hn : n ≤ 1000) (h1n : 1 ≤ n) (h0 : zs.getD 0 0 = 43) (hc : n ≤ c) (h7 : 7 ≤ n) (hno : (zs.getD 1 0 != 14) = true) :
    Calls Try.prog 36 #[.slice (some ⟨b, off, none⟩) n c, .int .i64 m] w fun e w' => e = .returned (.tuple #[.agg #[.int .i64 43, .int .i64 0, .slice none 0 0, .slice none 0 0, .int .i64 0, .int .i64 0, .int .u16 0, .int .u16 0, .int .u16 0, .int .i64 0, .int .i64 0, .bool false, .int .i64 0, .slice none 0 0], .bool false]) ∧ Below w.heap.size w w' := by
  obtain ⟨b', off', e1, hb, hcell⟩ := hr.2 (by omega)
  injection e1 with e1
  injection e1 with e1 e2
  subst e1 e2
  obtain ⟨hkw1, hkw, hg4, hg2⟩ := box2 w 28 [.int .i64 0, .int .i64 0, .slice none 0 0, .slice none 0 0, .int .i64 0, .int .i64 0, .int .u16 0, .int .u16 0, .int .u16 0, .int .i64 0, .int .i64 0, .bool false, .int .i64 0, .slice none 0 0] [.int .i64 43, .int .i64 0, .slice none 0 0, .slice none 0 0, .int .i64 0, .int .i64 0, .int .u16 0, .int .u16 0, .int .u16 0, .int .i64 0, .int .i64 0, .bool false, .int .i64 0, .slice none 0 0]
  have HCE := Lib.hid (fun X (hX : Below w.heap.size w X) j (hj : j < n) => (hX.cell (p := ⟨b, off + j, none⟩) hb).trans (hcell j hj))
  have hc0 := HCE.out _ hkw1 0 (by omega)
  rw [Nat.add_zero, h0] at hc0
  have HRG := Lib.hid (fun X (hX : Below w.heap.size w X) => (hr.below hX).more hX.size)
  have HX := Lib.hid hx
  have HKW := Lib.hid hkw
  have HG4 := Lib.hid hg4
  have HG2 := Lib.hid hg2
  clear hg4 hg2
  have hn0 : (0 : Int) < (n : Int) := by omega
  have CU := Lib.hid (fun W (hW : Below w.heap.size w W) => told_no1 b off n c zs _ W (HRG.out W hW) hx hn h1n h0 hc h7 rfl hno)
  have H0 := Lib.hid h0
  clear hr hcell hkw hkw1 h0
  go_enter Try.func36, Try.ntmps36
  go_upto_region 3 with fail
  obtain ⟨w3, hw3, G4, G2, GB⟩ := named0 HG4 HG2 HKW
  have hz3 : w.heap.size + 1 < w3.heap.size := G4.out.lt
  obtain ⟨hs0, hs1, hs2, hs3, hs4, hs5, hs6, hs7, hs8, hs9, hs10, hs11, hs12, hs13⟩ := cells14 G4.out
  obtain ⟨hp0, hp1, hp2, hp3, hp4, hp5, hp6, hp7, hp8, hp9, hp10, hp11, hp12, hp13⟩ := cells14 G2.out
  obtain ⟨hf0, hf1, hf2, hf3, hf4, hf5, hf6, hf7, hf8, hf9, hf10, hf11, hf12, hf13⟩ := frozen14 G4.out
  obtain ⟨hg0, hg1, hg2, hg3, hg4, hg5, hg6, hg7, hg8, hg9, hg10, hg11, hg12, hg13⟩ := frozen14 G2.out
  rw [hw3]
  clear hw3 hc0 HG4 HG2 HKW
  go_wp2_with (first
    | (go_at_call 64
       (with_reducible refine (CU.out _ ?_).mono ?_)
       · exact GB.out
       rintro e w5 ⟨rfl, hb5⟩
       have h1 := G4.out.below hb5 G4.out.lt
       have h0' := G2.out.below hb5 G2.out.lt
       have HB5 : Hid (Below w.heap.size w w5) := GB.out.trans (hb5.mono GB.out.size)
       have hz5 : w.heap.size + 1 < w5.heap.size := h1.lt
       obtain ⟨ks0, ks1, ks2, ks3, ks4, ks5, ks6, ks7, ks8, ks9, ks10, ks11, ks12, ks13⟩ := cells14 h1
       obtain ⟨kp0, kp1, kp2, kp3, kp4, kp5, kp6, kp7, kp8, kp9, kp10, kp11, kp12, kp13⟩ := cells14 h0'
       obtain ⟨kf0, kf1, kf2, kf3, kf4, kf5, kf6, kf7, kf8, kf9, kf10, kf11, kf12, kf13⟩ := frozen14 h1
       obtain ⟨kg0, kg1, kg2, kg3, kg4, kg5, kg6, kg7, kg8, kg9, kg10, kg11, kg12, kg13⟩ := frozen14 h0'
       have HH1 := Lib.hid h1
       have HH0 := Lib.hid h0'
       clear h1 h0' hb5))
  obtain ⟨X, hX⟩ : ∃ X, w5 = X := ⟨_, rfl⟩
  have hx0 := HH0.out
  have hxb := HB5.out
  rw [hX] at hx0 hxb
  rw [hX]
  exact end14 Try.results36 hx0 rfl hxb (Nat.le_refl _) rfl rfl fun w9 hbb hk => ⟨rfl, hbb⟩

set_option maxRecDepth 100000 in
set_option maxHeartbeats 4000000 in
theorem hrd_43_no4 (b off n c : Nat) (zs : List Int) (m : Int) (w : World) (hr : Row .u8 w w.heap.size (some ⟨b, off, none⟩) n zs) (hx : Bytes8 zs) (hn : n ≤ 1000) (h1n : 1 ≤ n) (h0 : zs.getD 0 0 = 43) (hc : n ≤ c) (h7 : 7 ≤ n) (hyes : (zs.getD 1 0 != 14) = false) (ha0 : (zs.getD 4 0 != 0) = true) (ha5 : (zs.getD 4 0 != 255) = true) :
    Calls Try.prog 36 #[.slice (some ⟨b, off, none⟩) n c, .int .i64 m] w fun e w' => e = .returned (.tuple #[.agg #[.int .i64 43, .int .i64 0, .slice none 0 0, .slice none 0 0, .int .i64 0, .int .i64 0, .int .u16 0, .int .u16 0, .int .u16 0, .int .i64 0, .int .i64 0, .bool false, .int .i64 0, .slice none 0 0], .bool false]) ∧ Below w.heap.size w w' := by
  obtain ⟨b', off', e1, hb, hcell⟩ := hr.2 (by omega)
  injection e1 with e1
  injection e1 with e1 e2
  subst e1 e2
  obtain ⟨hkw1, hkw, hg4, hg2⟩ := box2 w 28 [.int .i64 0, .int .i64 0, .slice none 0 0, .slice none 0 0, .int .i64 0, .int .i64 0, .int .u16 0, .int .u16 0, .int .u16 0, .int .i64 0, .int .i64 0, .bool false, .int .i64 0, .slice none 0 0] [.int .i64 43, .int .i64 0, .slice none 0 0, .slice none 0 0, .int .i64 0, .int .i64 0, .int .u16 0, .int .u16 0, .int .u16 0, .int .i64 0, .int .i64 0, .bool false, .int .i64 0, .slice none 0 0]
  have HCE := Lib.hid (fun X (hX : Below w.heap.size w X) j (hj : j < n) => (hX.cell (p := ⟨b, off + j, none⟩) hb).trans (hcell j hj))
  have hc0 := HCE.out _ hkw1 0 (by omega)
  rw [Nat.add_zero, h0] at hc0
  have HRG := Lib.hid (fun X (hX : Below w.heap.size w X) => (hr.below hX).more hX.size)
  have HX := Lib.hid hx
  have HKW := Lib.hid hkw
  have HG4 := Lib.hid hg4
  have HG2 := Lib.hid hg2
  clear hg4 hg2
  have hn0 : (0 : Int) < (n : Int) := by omega
  have CU := Lib.hid (fun W (hW : Below w.heap.size w W) => told_no4 b off n c zs _ _ W (HRG.out W hW) hx hn h1n h0 hc h7 rfl rfl hyes ha0 ha5)
  have H0 := Lib.hid h0
  clear hr hcell hkw hkw1 h0
  go_enter Try.func36, Try.ntmps36
  go_upto_region 3 with fail
  obtain ⟨w3, hw3, G4, G2, GB⟩ := named0 HG4 HG2 HKW
  have hz3 : w.heap.size + 1 < w3.heap.size := G4.out.lt
  obtain ⟨hs0, hs1, hs2, hs3, hs4, hs5, hs6, hs7, hs8, hs9, hs10, hs11, hs12, hs13⟩ := cells14 G4.out
  obtain ⟨hp0, hp1, hp2, hp3, hp4, hp5, hp6, hp7, hp8, hp9, hp10, hp11, hp12, hp13⟩ := cells14 G2.out
  obtain ⟨hf0, hf1, hf2, hf3, hf4, hf5, hf6, hf7, hf8, hf9, hf10, hf11, hf12, hf13⟩ := frozen14 G4.out
  obtain ⟨hg0, hg1, hg2, hg3, hg4, hg5, hg6, hg7, hg8, hg9, hg10, hg11, hg12, hg13⟩ := frozen14 G2.out
  rw [hw3]
  clear hw3 hc0 HG4 HG2 HKW
  go_wp2_with (first
    | (go_at_call 64
       (with_reducible refine (CU.out _ ?_).mono ?_)
       · exact GB.out
       rintro e w5 ⟨rfl, hb5⟩
       have h1 := G4.out.below hb5 G4.out.lt
       have h0' := G2.out.below hb5 G2.out.lt
       have HB5 : Hid (Below w.heap.size w w5) := GB.out.trans (hb5.mono GB.out.size)
       have hz5 : w.heap.size + 1 < w5.heap.size := h1.lt
       obtain ⟨ks0, ks1, ks2, ks3, ks4, ks5, ks6, ks7, ks8, ks9, ks10, ks11, ks12, ks13⟩ := cells14 h1
       obtain ⟨kp0, kp1, kp2, kp3, kp4, kp5, kp6, kp7, kp8, kp9, kp10, kp11, kp12, kp13⟩ := cells14 h0'
       obtain ⟨kf0, kf1, kf2, kf3, kf4, kf5, kf6, kf7, kf8, kf9, kf10, kf11, kf12, kf13⟩ := frozen14 h1
       obtain ⟨kg0, kg1, kg2, kg3, kg4, kg5, kg6, kg7, kg8, kg9, kg10, kg11, kg12, kg13⟩ := frozen14 h0'
       have HH1 := Lib.hid h1
       have HH0 := Lib.hid h0'
       clear h1 h0' hb5))
  obtain ⟨X, hX⟩ : ∃ X, w5 = X := ⟨_, rfl⟩
  have hx0 := HH0.out
  have hxb := HB5.out
  rw [hX] at hx0 hxb
  rw [hX]
  exact end14 Try.results36 hx0 rfl hxb (Nat.le_refl _) rfl rfl fun w9 hbb hk => ⟨rfl, hbb⟩

set_option maxRecDepth 100000 in
set_option maxHeartbeats 4000000 in
theorem hrd_43_0 (b off n c : Nat) (zs : List Int) (m : Int) (z2 z3 z5 : Int) (N : Nat) (w : World) (hr : Row .u8 w w.heap.size (some ⟨b, off, none⟩) n zs) (hx : Bytes8 zs) (hn : n ≤ 1000) (h1n : 1 ≤ n) (h0 : zs.getD 0 0 = 43) (hc : n ≤ c) (h7 : 7 ≤ n) (hy1 : zs.getD 1 0 = 14) (hy2 : zs.getD 2 0 = z2) (hy3 : zs.getD 3 0 = z3) (hy4 : zs.getD 4 0 = 0) (hy5 : zs.getD 5 0 = z5) (hy6 : zs.getD 6 0 = (N : Int)) :
    Calls Try.prog 36 #[.slice (some ⟨b, off, none⟩) n c, .int .i64 m] w fun e w' => ToldGot z2 z3 z5 false N zs w e w' := by
  obtain ⟨b', off', e1, hb, hcell⟩ := hr.2 (by omega)
  injection e1 with e1
  injection e1 with e1 e2
  subst e1 e2
  obtain ⟨hkw1, hkw, hg4, hg2⟩ := box2 w 28 [.int .i64 0, .int .i64 0, .slice none 0 0, .slice none 0 0, .int .i64 0, .int .i64 0, .int .u16 0, .int .u16 0, .int .u16 0, .int .i64 0, .int .i64 0, .bool false, .int .i64 0, .slice none 0 0] [.int .i64 43, .int .i64 0, .slice none 0 0, .slice none 0 0, .int .i64 0, .int .i64 0, .int .u16 0, .int .u16 0, .int .u16 0, .int .i64 0, .int .i64 0, .bool false, .int .i64 0, .slice none 0 0]
  have HCE := Lib.hid (fun X (hX : Below w.heap.size w X) j (hj : j < n) => (hX.cell (p := ⟨b, off + j, none⟩) hb).trans (hcell j hj))
  have hc0 := HCE.out _ hkw1 0 (by omega)
  rw [Nat.add_zero, h0] at hc0
  have HRG := Lib.hid (fun X (hX : Below w.heap.size w X) => (hr.below hX).more hX.size)
  have HX := Lib.hid hx
  have HKW := Lib.hid hkw
  have HG4 := Lib.hid hg4
  have HG2 := Lib.hid hg2
  clear hg4 hg2
  have hn0 : (0 : Int) < (n : Int) := by omega
  have CU := Lib.hid (fun W (hW : Below w.heap.size w W) => told_yes0 b off n c zs 14 z2 z3 0 z5 N false W (HRG.out W hW) hx hn h1n h0 hc h7 hy1 hy2 hy3 hy4 hy5 hy6 rfl rfl rfl)
  have H7 := Lib.hid h7
  clear hy1 hy2 hy3 hy4 hy5 hy6 h7
  have H0 := Lib.hid h0
  clear hr hcell hkw hkw1 h0
  go_enter Try.func36, Try.ntmps36
  go_upto_region 3 with fail
  obtain ⟨w3, hw3, G4, G2, GB⟩ := named0 HG4 HG2 HKW
  have hz3 : w.heap.size + 1 < w3.heap.size := G4.out.lt
  obtain ⟨hs0, hs1, hs2, hs3, hs4, hs5, hs6, hs7, hs8, hs9, hs10, hs11, hs12, hs13⟩ := cells14 G4.out
  obtain ⟨hp0, hp1, hp2, hp3, hp4, hp5, hp6, hp7, hp8, hp9, hp10, hp11, hp12, hp13⟩ := cells14 G2.out
  obtain ⟨hf0, hf1, hf2, hf3, hf4, hf5, hf6, hf7, hf8, hf9, hf10, hf11, hf12, hf13⟩ := frozen14 G4.out
  obtain ⟨hg0, hg1, hg2, hg3, hg4, hg5, hg6, hg7, hg8, hg9, hg10, hg11, hg12, hg13⟩ := frozen14 G2.out
  rw [hw3]
  clear hw3 hc0 HG4 HG2 HKW
  go_wp2_with (first
    | (go_at_call 64
       (with_reducible refine (CU.out _ ?_).mono ?_)
       · exact GB.out
       rintro e w5 ⟨OA, ol, oc, ok, rfl, hb5, hsome, hnone⟩
       have h1 := G4.out.below hb5 G4.out.lt
       have h0' := G2.out.below hb5 G2.out.lt
       have HB5 : Hid (Below w.heap.size w w5) := GB.out.trans (hb5.mono GB.out.size)
       have hz5 : w.heap.size + 1 < w5.heap.size := h1.lt
       obtain ⟨ks0, ks1, ks2, ks3, ks4, ks5, ks6, ks7, ks8, ks9, ks10, ks11, ks12, ks13⟩ := cells14 h1
       obtain ⟨kp0, kp1, kp2, kp3, kp4, kp5, kp6, kp7, kp8, kp9, kp10, kp11, kp12, kp13⟩ := cells14 h0'
       obtain ⟨kf0, kf1, kf2, kf3, kf4, kf5, kf6, kf7, kf8, kf9, kf10, kf11, kf12, kf13⟩ := frozen14 h1
       obtain ⟨kg0, kg1, kg2, kg3, kg4, kg5, kg6, kg7, kg8, kg9, kg10, kg11, kg12, kg13⟩ := frozen14 h0'
       have HH1 := Lib.hid h1
       have HH0 := Lib.hid h0'
       have HSO := Lib.hid hsome
       have HNO := Lib.hid hnone
       have HZ3 := Lib.hid hz3
       clear h1 h0' hb5 hsome hnone))
  obtain ⟨X, hX⟩ : ∃ X, w5 = X := ⟨_, rfl⟩
  have hx0 := HH0.out
  have hxb := HB5.out
  rw [hX] at hx0 hxb
  rw [hX]
  exact end14 Try.results36 hx0 rfl hxb (Nat.le_refl _) rfl rfl fun w9 hbb hk => ⟨OA, ol, oc, ok, rfl, hbb, fun os h => ⟨(HSO.out os h).1, (HSO.out os h).2.1, (by have k := own2_mono (HSO.out os h).2.2 (show w.heap.size + 2 ≤ w3.heap.size + 2 by have := HZ3.out; omega); rw [hX] at k; exact own_blk k hk (show w.heap.size < w.heap.size + 2 by omega))⟩, HNO.out⟩

set_option maxRecDepth 100000 in
set_option maxHeartbeats 4000000 in
theorem hrd_43_5 (b off n c : Nat) (zs : List Int) (m : Int) (z2 z3 z5 : Int) (N : Nat) (w : World) (hr : Row .u8 w w.heap.size (some ⟨b, off, none⟩) n zs) (hx : Bytes8 zs) (hn : n ≤ 1000) (h1n : 1 ≤ n) (h0 : zs.getD 0 0 = 43) (hc : n ≤ c) (h7 : 7 ≤ n) (hy1 : zs.getD 1 0 = 14) (hy2 : zs.getD 2 0 = z2) (hy3 : zs.getD 3 0 = z3) (hy4 : zs.getD 4 0 = 255) (hy5 : zs.getD 5 0 = z5) (hy6 : zs.getD 6 0 = (N : Int)) :
    Calls Try.prog 36 #[.slice (some ⟨b, off, none⟩) n c, .int .i64 m] w fun e w' => ToldGot z2 z3 z5 true N zs w e w' := by
  obtain ⟨b', off', e1, hb, hcell⟩ := hr.2 (by omega)
  injection e1 with e1
  injection e1 with e1 e2
  subst e1 e2
  obtain ⟨hkw1, hkw, hg4, hg2⟩ := box2 w 28 [.int .i64 0, .int .i64 0, .slice none 0 0, .slice none 0 0, .int .i64 0, .int .i64 0, .int .u16 0, .int .u16 0, .int .u16 0, .int .i64 0, .int .i64 0, .bool false, .int .i64 0, .slice none 0 0] [.int .i64 43, .int .i64 0, .slice none 0 0, .slice none 0 0, .int .i64 0, .int .i64 0, .int .u16 0, .int .u16 0, .int .u16 0, .int .i64 0, .int .i64 0, .bool false, .int .i64 0, .slice none 0 0]
  have HCE := Lib.hid (fun X (hX : Below w.heap.size w X) j (hj : j < n) => (hX.cell (p := ⟨b, off + j, none⟩) hb).trans (hcell j hj))
  have hc0 := HCE.out _ hkw1 0 (by omega)
  rw [Nat.add_zero, h0] at hc0
  have HRG := Lib.hid (fun X (hX : Below w.heap.size w X) => (hr.below hX).more hX.size)
  have HX := Lib.hid hx
  have HKW := Lib.hid hkw
  have HG4 := Lib.hid hg4
  have HG2 := Lib.hid hg2
  clear hg4 hg2
  have hn0 : (0 : Int) < (n : Int) := by omega
  have CU := Lib.hid (fun W (hW : Below w.heap.size w W) => told_yes5 b off n c zs 14 z2 z3 255 z5 N true W (HRG.out W hW) hx hn h1n h0 hc h7 hy1 hy2 hy3 hy4 hy5 hy6 rfl rfl rfl rfl)
  have H7 := Lib.hid h7
  clear hy1 hy2 hy3 hy4 hy5 hy6 h7
  have H0 := Lib.hid h0
  clear hr hcell hkw hkw1 h0
  go_enter Try.func36, Try.ntmps36
  go_upto_region 3 with fail
  obtain ⟨w3, hw3, G4, G2, GB⟩ := named0 HG4 HG2 HKW
  have hz3 : w.heap.size + 1 < w3.heap.size := G4.out.lt
  obtain ⟨hs0, hs1, hs2, hs3, hs4, hs5, hs6, hs7, hs8, hs9, hs10, hs11, hs12, hs13⟩ := cells14 G4.out
  obtain ⟨hp0, hp1, hp2, hp3, hp4, hp5, hp6, hp7, hp8, hp9, hp10, hp11, hp12, hp13⟩ := cells14 G2.out
  obtain ⟨hf0, hf1, hf2, hf3, hf4, hf5, hf6, hf7, hf8, hf9, hf10, hf11, hf12, hf13⟩ := frozen14 G4.out
  obtain ⟨hg0, hg1, hg2, hg3, hg4, hg5, hg6, hg7, hg8, hg9, hg10, hg11, hg12, hg13⟩ := frozen14 G2.out
  rw [hw3]
  clear hw3 hc0 HG4 HG2 HKW
  go_wp2_with (first
    | (go_at_call 64
       (with_reducible refine (CU.out _ ?_).mono ?_)
       · exact GB.out
       rintro e w5 ⟨OA, ol, oc, ok, rfl, hb5, hsome, hnone⟩
       have h1 := G4.out.below hb5 G4.out.lt
       have h0' := G2.out.below hb5 G2.out.lt
       have HB5 : Hid (Below w.heap.size w w5) := GB.out.trans (hb5.mono GB.out.size)
       have hz5 : w.heap.size + 1 < w5.heap.size := h1.lt
       obtain ⟨ks0, ks1, ks2, ks3, ks4, ks5, ks6, ks7, ks8, ks9, ks10, ks11, ks12, ks13⟩ := cells14 h1
       obtain ⟨kp0, kp1, kp2, kp3, kp4, kp5, kp6, kp7, kp8, kp9, kp10, kp11, kp12, kp13⟩ := cells14 h0'
       obtain ⟨kf0, kf1, kf2, kf3, kf4, kf5, kf6, kf7, kf8, kf9, kf10, kf11, kf12, kf13⟩ := frozen14 h1
       obtain ⟨kg0, kg1, kg2, kg3, kg4, kg5, kg6, kg7, kg8, kg9, kg10, kg11, kg12, kg13⟩ := frozen14 h0'
       have HH1 := Lib.hid h1
       have HH0 := Lib.hid h0'
       have HSO := Lib.hid hsome
       have HNO := Lib.hid hnone
       have HZ3 := Lib.hid hz3
       clear h1 h0' hb5 hsome hnone))
  obtain ⟨X, hX⟩ : ∃ X, w5 = X := ⟨_, rfl⟩
  have hx0 := HH0.out
  have hxb := HB5.out
  rw [hX] at hx0 hxb
  rw [hX]
  exact end14 Try.results36 hx0 rfl hxb (Nat.le_refl _) rfl rfl fun w9 hbb hk => ⟨OA, ol, oc, ok, rfl, hbb, fun os h => ⟨(HSO.out os h).1, (HSO.out os h).2.1, (by have k := own2_mono (HSO.out os h).2.2 (show w.heap.size + 2 ≤ w3.heap.size + 2 by have := HZ3.out; omega); rw [hX] at k; exact own_blk k hk (show w.heap.size < w.heap.size + 2 by omega))⟩, HNO.out⟩

end Go.Proofs.Ytielfekkonflfaa

/- Proved: for every two ints, busbarlaw5.AskNames returns true. Conditions: none. -/
import Derived.Test.YtebpilfogdenjaaLAsk4
import Derived.Test.YtebpilfogdenjaaPSpans
import Derived.Test.YtebpilfogdenjaaAwake5
import Derived.Test.YtebpilfogdenjaaPBytes
import Derived.Test.YtebpilfogdenjaaPairs
namespace Go.Proofs.Ytebpilfogdenjaa.askNames
open Go.ChangeShapes Go.WideShapes Go.ChangeAt Go.RowKit
open Go.ChangeMaps (open_string shut_string)
set_option linter.unusedVariables false      -- a walk need not use every 'w<i>' (that an integer argument fits its kind)


set_option maxRecDepth 100000 in
set_option maxHeartbeats 4000000 in
theorem names (k v : Int) (w : World) (k0 : -9223372036854775808 ≤ k) (k1 : k ≤ 9223372036854775807) (v0 : -9223372036854775808 ≤ v) (v1 : v ≤ 9223372036854775807) :
    Calls Try.prog 7 #[.int .i64 k, .int .i64 v] w fun e w' => e = .returned (.bool true) ∧ Below w.heap.size w w' := by
  go_enter Try.func7, Try.ntmps7
  go_wp2_with fail
  refine (awake_any _).mono ?_
  rintro e w1 ⟨rfl, hb1⟩
  have HB1 := Lib.hid hb1
  clear hb1
  go_wp2_with fail
  refine (lask_any k v _ k0 k1 v0 v1).mono ?_
  rintro e w2 ⟨fn, at_, n, x, an, orr, bl, wl, ra, rn, co, ob, BA, WA, bc, wc, bs, ws, rfl, hrt, hwd, _, _, _, hb2⟩
  have HB2 := Lib.hid (HB1.out.trans (hb2.mono HB1.out.size))
  clear hb2
  rcases kinds fn with rfl | rfl | rfl | rfl | rfl | rfl | rfl | rfl | rfl | rfl | rfl | hno
  · obtain ⟨_, hpl, ⟨a0, a1⟩, ⟨r0, r1⟩, hfit⟩ := id hrt
    unfold plainP at hpl
    unfold fitsP at hfit
    have hm1 : kMostR 1 ≤ 2000 := by decide
    have hm2 : kMostW 1 ≤ 2000 := by decide
    have n0 : 0 ≤ n := by omega
    have n1 : n ≤ 2000 := by omega
    have q0 : 0 ≤ rn := by omega
    have q1 : rn ≤ 2000 := by omega
    clear hpl hfit hm1 hm2
    have HRt := Lib.hid hrt
    have HWd := Lib.hid hwd
    clear hrt hwd
    have ha : WholeV (w2.alloc (.cells #[.int .i64 1, .int .i64 at_, .int .i64 n, .int .u16 x, .int .u16 an, .int .u16 orr, .slice BA bl bc, .slice WA wl wc, .int .i64 ra, .int .i64 rn, .int .i64 co, .int .i64 ob] 30)) w2.heap.size 30 [.int .i64 1, .int .i64 at_, .int .i64 n, .int .u16 x, .int .u16 an, .int .u16 orr, .slice BA bl bc, .slice WA wl wc, .int .i64 ra, .int .i64 rn, .int .i64 co, .int .i64 ob] := heap_alloc_new w2 _
    have HA := Lib.hid ha
    clear ha
    go_wp2_with fail
    refine (pspans_yes 1 at_ n x an orr bl wl ra rn co ob BA WA bc wc _ HWd.out HRt.out).mono ?_
    rintro e w3 ⟨R, nr, rc, S, ns, sc, rfl, hR, hS, hb3⟩
    have h3 := HA.out.below hb3 HA.out.lt
    have HB3 : Hid (Below w.heap.size w w3) := HB2.out.trans (((Below.refl _ _).alloc (Nat.le_refl _) _).trans (hb3.mono (by simp)) |>.mono HB2.out.size)
    have hz3 : w2.heap.size < w3.heap.size := h3.lt
    obtain ⟨hq0, hq1, hq2, hq3, hq4, hq5, hq6, hq7, hq8, hq9, hq10, hq11⟩ := cells12 h3
    clear hb3 h3
    have hR' : OneRow w3 R nr (some (0, at_, at_ + n)) := hR
    obtain ⟨rfl, gr, rfl, hgr, hr0, hr1, hr2⟩ := hR'
    obtain rfl : ns = 0 := hS
    clear hR
    have HT1 : Hid (kTab 1 = 0) := rfl
    have HT2 : Hid (kHas 1 = true) := rfl
    go_wp2_with fail
    refine (table_lit 1 _ _ _ HT1.out HT2.out).mono ?_
    rintro e w' ⟨rfl, rfl⟩
    go_wp2_with fail
    have wa1 : IntKind.i64.wrap (at_ + n) = at_ + n := IntWalk.i64_in _ (by omega)
    have wa2 : IntKind.i64.wrap (at_ + n - at_) = n := by rw [show at_ + n - at_ = n by omega]; exact IntWalk.i64_in _ (by omega)
    go_loopw [9, 10, 12] (fun o s i wr => ∃ k e : Nat, k ≤ 1 ∧ i = .int .i64 (k : Int) ∧ o = .bool true ∧ ((k = 0 ∧ s = .int .i64 0) ∨ (k = 1 ∧ s = .int .i64 n)) ∧ wr = w3.drewN e) (fun _ _ i _ => 1 - (intOf i).toNat)
    case atStart => exact ⟨0, 0, by omega, rfl, rfl, .inl ⟨rfl, rfl⟩, rfl⟩
    case round =>
    obtain ⟨ka, ea, hka, rfl, rfl, hsa, rfl⟩ := hrel
    rcases hsa with ⟨rfl, rfl⟩ | ⟨hk1a, rfl⟩
    · go_wp2_with fail
      go_quiet (fail)
      go_wp2_with fail
      go_roundw
      case rel => exact ⟨1, _, by omega, rfl, rfl, .inr ⟨rfl, rfl⟩, rfl⟩
      case measure => simp [intOf]
    have hgea : ¬ (ka : Int) < 1 := by omega
    obtain ⟨w3a, hX⟩ : ∃ X, w3.drewN ea = X := ⟨_, rfl⟩
    have hq0a : w3a.cell? ⟨w2.heap.size, 0, none⟩ = some (.int .i64 1) := by rw [← hX]; exact hq0
    have hq1a : w3a.cell? ⟨w2.heap.size, 1, none⟩ = some (.int .i64 at_) := by rw [← hX]; exact hq1
    have hq2a : w3a.cell? ⟨w2.heap.size, 2, none⟩ = some (.int .i64 n) := by rw [← hX]; exact hq2
    have hq3a : w3a.cell? ⟨w2.heap.size, 3, none⟩ = some (.int .u16 x) := by rw [← hX]; exact hq3
    have hq4a : w3a.cell? ⟨w2.heap.size, 4, none⟩ = some (.int .u16 an) := by rw [← hX]; exact hq4
    have hq5a : w3a.cell? ⟨w2.heap.size, 5, none⟩ = some (.int .u16 orr) := by rw [← hX]; exact hq5
    have hq6a : w3a.cell? ⟨w2.heap.size, 6, none⟩ = some (.slice BA bl bc) := by rw [← hX]; exact hq6
    have hq7a : w3a.cell? ⟨w2.heap.size, 7, none⟩ = some (.slice WA wl wc) := by rw [← hX]; exact hq7
    have hq8a : w3a.cell? ⟨w2.heap.size, 8, none⟩ = some (.int .i64 ra) := by rw [← hX]; exact hq8
    have hq9a : w3a.cell? ⟨w2.heap.size, 9, none⟩ = some (.int .i64 rn) := by rw [← hX]; exact hq9
    have hq10a : w3a.cell? ⟨w2.heap.size, 10, none⟩ = some (.int .i64 co) := by rw [← hX]; exact hq10
    have hq11a : w3a.cell? ⟨w2.heap.size, 11, none⟩ = some (.int .i64 ob) := by rw [← hX]; exact hq11
    have hz3a : w2.heap.size < w3a.heap.size := by rw [← hX]; exact hz3
    have HB3a : Hid (Below w.heap.size w w3a) := by rw [← hX]; exact below_drewN HB3.out _
    have hgra : gr < w3a.heap.size := by rw [← hX]; exact hgr
    have hr0a : w3a.cell? ⟨gr, 0, none⟩ = some (.int .i64 0) := by rw [← hX]; exact hr0
    have hr1a : w3a.cell? ⟨gr, 1, none⟩ = some (.int .i64 at_) := by rw [← hX]; exact hr1
    have hr2a : w3a.cell? ⟨gr, 2, none⟩ = some (.int .i64 (at_ + n)) := by rw [← hX]; exact hr2
    rw [hX]
    clear hX hq0 hq1 hq2 hq3 hq4 hq5 hq6 hq7 hq8 hq9 hq10 hq11 hz3 HB3 hgr hr0 hr1 hr2
    go_wp2_with fail
    go_loopw [9, 11, 13] (fun o s i wr => o = .bool true ∧ s = .int .i64 0 ∧ i = .int .i64 0 ∧ w3a = wr) (fun _ _ _ _ => 0)
    case atStart => exact ⟨rfl, rfl, rfl, rfl⟩
    case round =>
    obtain ⟨rfl, rfl, rfl, rfl⟩ := hrel
    go_wp2_with fail
    have hge60 := guard60
    have heq60 := eq60
    go_quiet (fail)
    go_wp2
    go_ret
    exact ⟨rfl, below_drewN (HB3a.out.alloc HB3a.out.size _) _⟩
  · obtain ⟨_, hpl, ⟨a0, a1⟩, ⟨r0, r1⟩, hfit⟩ := id hrt
    unfold plainP at hpl
    unfold fitsP at hfit
    have hm1 : kMostR 2 ≤ 2000 := by decide
    have hm2 : kMostW 2 ≤ 2000 := by decide
    have n0 : 0 ≤ n := by omega
    have n1 : n ≤ 2000 := by omega
    have q0 : 0 ≤ rn := by omega
    have q1 : rn ≤ 2000 := by omega
    clear hpl hfit hm1 hm2
    have HRt := Lib.hid hrt
    have HWd := Lib.hid hwd
    clear hrt hwd
    have ha : WholeV (w2.alloc (.cells #[.int .i64 2, .int .i64 at_, .int .i64 n, .int .u16 x, .int .u16 an, .int .u16 orr, .slice BA bl bc, .slice WA wl wc, .int .i64 ra, .int .i64 rn, .int .i64 co, .int .i64 ob] 30)) w2.heap.size 30 [.int .i64 2, .int .i64 at_, .int .i64 n, .int .u16 x, .int .u16 an, .int .u16 orr, .slice BA bl bc, .slice WA wl wc, .int .i64 ra, .int .i64 rn, .int .i64 co, .int .i64 ob] := heap_alloc_new w2 _
    have HA := Lib.hid ha
    clear ha
    go_wp2_with fail
    refine (pspans_yes 2 at_ n x an orr bl wl ra rn co ob BA WA bc wc _ HWd.out HRt.out).mono ?_
    rintro e w3 ⟨R, nr, rc, S, ns, sc, rfl, hR, hS, hb3⟩
    have h3 := HA.out.below hb3 HA.out.lt
    have HB3 : Hid (Below w.heap.size w w3) := HB2.out.trans (((Below.refl _ _).alloc (Nat.le_refl _) _).trans (hb3.mono (by simp)) |>.mono HB2.out.size)
    have hz3 : w2.heap.size < w3.heap.size := h3.lt
    obtain ⟨hq0, hq1, hq2, hq3, hq4, hq5, hq6, hq7, hq8, hq9, hq10, hq11⟩ := cells12 h3
    clear hb3 h3
    have hR' : OneRow w3 R nr (some (1, at_, at_ + n)) := hR
    obtain ⟨rfl, gr, rfl, hgr, hr0, hr1, hr2⟩ := hR'
    obtain rfl : ns = 0 := hS
    clear hR
    have HT1 : Hid (kTab 2 = 1) := rfl
    have HT2 : Hid (kHas 2 = true) := rfl
    go_wp2_with fail
    refine (table_lit 2 _ _ _ HT1.out HT2.out).mono ?_
    rintro e w' ⟨rfl, rfl⟩
    go_wp2_with fail
    have wa1 : IntKind.i64.wrap (at_ + n) = at_ + n := IntWalk.i64_in _ (by omega)
    have wa2 : IntKind.i64.wrap (at_ + n - at_) = n := by rw [show at_ + n - at_ = n by omega]; exact IntWalk.i64_in _ (by omega)
    go_loopw [9, 10, 12] (fun o s i wr => ∃ k e : Nat, k ≤ 1 ∧ i = .int .i64 (k : Int) ∧ o = .bool true ∧ ((k = 0 ∧ s = .int .i64 0) ∨ (k = 1 ∧ s = .int .i64 n)) ∧ wr = w3.drewN e) (fun _ _ i _ => 1 - (intOf i).toNat)
    case atStart => exact ⟨0, 0, by omega, rfl, rfl, .inl ⟨rfl, rfl⟩, rfl⟩
    case round =>
    obtain ⟨ka, ea, hka, rfl, rfl, hsa, rfl⟩ := hrel
    rcases hsa with ⟨rfl, rfl⟩ | ⟨hk1a, rfl⟩
    · go_wp2_with fail
      go_quiet (fail)
      go_wp2_with fail
      go_roundw
      case rel => exact ⟨1, _, by omega, rfl, rfl, .inr ⟨rfl, rfl⟩, rfl⟩
      case measure => simp [intOf]
    have hgea : ¬ (ka : Int) < 1 := by omega
    obtain ⟨w3a, hX⟩ : ∃ X, w3.drewN ea = X := ⟨_, rfl⟩
    have hq0a : w3a.cell? ⟨w2.heap.size, 0, none⟩ = some (.int .i64 2) := by rw [← hX]; exact hq0
    have hq1a : w3a.cell? ⟨w2.heap.size, 1, none⟩ = some (.int .i64 at_) := by rw [← hX]; exact hq1
    have hq2a : w3a.cell? ⟨w2.heap.size, 2, none⟩ = some (.int .i64 n) := by rw [← hX]; exact hq2
    have hq3a : w3a.cell? ⟨w2.heap.size, 3, none⟩ = some (.int .u16 x) := by rw [← hX]; exact hq3
    have hq4a : w3a.cell? ⟨w2.heap.size, 4, none⟩ = some (.int .u16 an) := by rw [← hX]; exact hq4
    have hq5a : w3a.cell? ⟨w2.heap.size, 5, none⟩ = some (.int .u16 orr) := by rw [← hX]; exact hq5
    have hq6a : w3a.cell? ⟨w2.heap.size, 6, none⟩ = some (.slice BA bl bc) := by rw [← hX]; exact hq6
    have hq7a : w3a.cell? ⟨w2.heap.size, 7, none⟩ = some (.slice WA wl wc) := by rw [← hX]; exact hq7
    have hq8a : w3a.cell? ⟨w2.heap.size, 8, none⟩ = some (.int .i64 ra) := by rw [← hX]; exact hq8
    have hq9a : w3a.cell? ⟨w2.heap.size, 9, none⟩ = some (.int .i64 rn) := by rw [← hX]; exact hq9
    have hq10a : w3a.cell? ⟨w2.heap.size, 10, none⟩ = some (.int .i64 co) := by rw [← hX]; exact hq10
    have hq11a : w3a.cell? ⟨w2.heap.size, 11, none⟩ = some (.int .i64 ob) := by rw [← hX]; exact hq11
    have hz3a : w2.heap.size < w3a.heap.size := by rw [← hX]; exact hz3
    have HB3a : Hid (Below w.heap.size w w3a) := by rw [← hX]; exact below_drewN HB3.out _
    have hgra : gr < w3a.heap.size := by rw [← hX]; exact hgr
    have hr0a : w3a.cell? ⟨gr, 0, none⟩ = some (.int .i64 1) := by rw [← hX]; exact hr0
    have hr1a : w3a.cell? ⟨gr, 1, none⟩ = some (.int .i64 at_) := by rw [← hX]; exact hr1
    have hr2a : w3a.cell? ⟨gr, 2, none⟩ = some (.int .i64 (at_ + n)) := by rw [← hX]; exact hr2
    rw [hX]
    clear hX hq0 hq1 hq2 hq3 hq4 hq5 hq6 hq7 hq8 hq9 hq10 hq11 hz3 HB3 hgr hr0 hr1 hr2
    go_wp2_with fail
    go_loopw [9, 11, 13] (fun o s i wr => o = .bool true ∧ s = .int .i64 0 ∧ i = .int .i64 0 ∧ w3a = wr) (fun _ _ _ _ => 0)
    case atStart => exact ⟨rfl, rfl, rfl, rfl⟩
    case round =>
    obtain ⟨rfl, rfl, rfl, rfl⟩ := hrel
    go_wp2_with fail
    have hge60 := guard60
    have heq60 := eq60
    go_quiet (fail)
    go_wp2
    go_ret
    exact ⟨rfl, below_drewN (HB3a.out.alloc HB3a.out.size _) _⟩
  · obtain ⟨_, hpl, ⟨a0, a1⟩, ⟨r0, r1⟩, hfit⟩ := id hrt
    unfold plainP at hpl
    unfold fitsP at hfit
    have hm1 : kMostR 3 ≤ 2000 := by decide
    have hm2 : kMostW 3 ≤ 2000 := by decide
    have n0 : 0 ≤ n := by omega
    have n1 : n ≤ 2000 := by omega
    have q0 : 0 ≤ rn := by omega
    have q1 : rn ≤ 2000 := by omega
    clear hpl hfit hm1 hm2
    have HRt := Lib.hid hrt
    have HWd := Lib.hid hwd
    clear hrt hwd
    have ha : WholeV (w2.alloc (.cells #[.int .i64 3, .int .i64 at_, .int .i64 n, .int .u16 x, .int .u16 an, .int .u16 orr, .slice BA bl bc, .slice WA wl wc, .int .i64 ra, .int .i64 rn, .int .i64 co, .int .i64 ob] 30)) w2.heap.size 30 [.int .i64 3, .int .i64 at_, .int .i64 n, .int .u16 x, .int .u16 an, .int .u16 orr, .slice BA bl bc, .slice WA wl wc, .int .i64 ra, .int .i64 rn, .int .i64 co, .int .i64 ob] := heap_alloc_new w2 _
    have HA := Lib.hid ha
    clear ha
    go_wp2_with fail
    refine (pspans_yes 3 at_ n x an orr bl wl ra rn co ob BA WA bc wc _ HWd.out HRt.out).mono ?_
    rintro e w3 ⟨R, nr, rc, S, ns, sc, rfl, hR, hS, hb3⟩
    have h3 := HA.out.below hb3 HA.out.lt
    have HB3 : Hid (Below w.heap.size w w3) := HB2.out.trans (((Below.refl _ _).alloc (Nat.le_refl _) _).trans (hb3.mono (by simp)) |>.mono HB2.out.size)
    have hz3 : w2.heap.size < w3.heap.size := h3.lt
    obtain ⟨hq0, hq1, hq2, hq3, hq4, hq5, hq6, hq7, hq8, hq9, hq10, hq11⟩ := cells12 h3
    clear hb3 h3
    have hR' : OneRow w3 R nr (some (2, at_, at_ + n)) := hR
    obtain ⟨rfl, gr, rfl, hgr, hr0, hr1, hr2⟩ := hR'
    obtain rfl : ns = 0 := hS
    clear hR
    have HT1 : Hid (kTab 3 = 2) := rfl
    have HT2 : Hid (kHas 3 = true) := rfl
    go_wp2_with fail
    refine (table_lit 3 _ _ _ HT1.out HT2.out).mono ?_
    rintro e w' ⟨rfl, rfl⟩
    go_wp2_with fail
    have wa1 : IntKind.i64.wrap (at_ + n) = at_ + n := IntWalk.i64_in _ (by omega)
    have wa2 : IntKind.i64.wrap (at_ + n - at_) = n := by rw [show at_ + n - at_ = n by omega]; exact IntWalk.i64_in _ (by omega)
    go_loopw [9, 10, 12] (fun o s i wr => ∃ k e : Nat, k ≤ 1 ∧ i = .int .i64 (k : Int) ∧ o = .bool true ∧ ((k = 0 ∧ s = .int .i64 0) ∨ (k = 1 ∧ s = .int .i64 n)) ∧ wr = w3.drewN e) (fun _ _ i _ => 1 - (intOf i).toNat)
    case atStart => exact ⟨0, 0, by omega, rfl, rfl, .inl ⟨rfl, rfl⟩, rfl⟩
    case round =>
    obtain ⟨ka, ea, hka, rfl, rfl, hsa, rfl⟩ := hrel
    rcases hsa with ⟨rfl, rfl⟩ | ⟨hk1a, rfl⟩
    · go_wp2_with fail
      go_quiet (fail)
      go_wp2_with fail
      go_roundw
      case rel => exact ⟨1, _, by omega, rfl, rfl, .inr ⟨rfl, rfl⟩, rfl⟩
      case measure => simp [intOf]
    have hgea : ¬ (ka : Int) < 1 := by omega
    obtain ⟨w3a, hX⟩ : ∃ X, w3.drewN ea = X := ⟨_, rfl⟩
    have hq0a : w3a.cell? ⟨w2.heap.size, 0, none⟩ = some (.int .i64 3) := by rw [← hX]; exact hq0
    have hq1a : w3a.cell? ⟨w2.heap.size, 1, none⟩ = some (.int .i64 at_) := by rw [← hX]; exact hq1
    have hq2a : w3a.cell? ⟨w2.heap.size, 2, none⟩ = some (.int .i64 n) := by rw [← hX]; exact hq2
    have hq3a : w3a.cell? ⟨w2.heap.size, 3, none⟩ = some (.int .u16 x) := by rw [← hX]; exact hq3
    have hq4a : w3a.cell? ⟨w2.heap.size, 4, none⟩ = some (.int .u16 an) := by rw [← hX]; exact hq4
    have hq5a : w3a.cell? ⟨w2.heap.size, 5, none⟩ = some (.int .u16 orr) := by rw [← hX]; exact hq5
    have hq6a : w3a.cell? ⟨w2.heap.size, 6, none⟩ = some (.slice BA bl bc) := by rw [← hX]; exact hq6
    have hq7a : w3a.cell? ⟨w2.heap.size, 7, none⟩ = some (.slice WA wl wc) := by rw [← hX]; exact hq7
    have hq8a : w3a.cell? ⟨w2.heap.size, 8, none⟩ = some (.int .i64 ra) := by rw [← hX]; exact hq8
    have hq9a : w3a.cell? ⟨w2.heap.size, 9, none⟩ = some (.int .i64 rn) := by rw [← hX]; exact hq9
    have hq10a : w3a.cell? ⟨w2.heap.size, 10, none⟩ = some (.int .i64 co) := by rw [← hX]; exact hq10
    have hq11a : w3a.cell? ⟨w2.heap.size, 11, none⟩ = some (.int .i64 ob) := by rw [← hX]; exact hq11
    have hz3a : w2.heap.size < w3a.heap.size := by rw [← hX]; exact hz3
    have HB3a : Hid (Below w.heap.size w w3a) := by rw [← hX]; exact below_drewN HB3.out _
    have hgra : gr < w3a.heap.size := by rw [← hX]; exact hgr
    have hr0a : w3a.cell? ⟨gr, 0, none⟩ = some (.int .i64 2) := by rw [← hX]; exact hr0
    have hr1a : w3a.cell? ⟨gr, 1, none⟩ = some (.int .i64 at_) := by rw [← hX]; exact hr1
    have hr2a : w3a.cell? ⟨gr, 2, none⟩ = some (.int .i64 (at_ + n)) := by rw [← hX]; exact hr2
    rw [hX]
    clear hX hq0 hq1 hq2 hq3 hq4 hq5 hq6 hq7 hq8 hq9 hq10 hq11 hz3 HB3 hgr hr0 hr1 hr2
    go_wp2_with fail
    go_loopw [9, 11, 13] (fun o s i wr => o = .bool true ∧ s = .int .i64 0 ∧ i = .int .i64 0 ∧ w3a = wr) (fun _ _ _ _ => 0)
    case atStart => exact ⟨rfl, rfl, rfl, rfl⟩
    case round =>
    obtain ⟨rfl, rfl, rfl, rfl⟩ := hrel
    go_wp2_with fail
    have hge60 := guard60
    have heq60 := eq60
    go_quiet (fail)
    go_wp2
    go_ret
    exact ⟨rfl, below_drewN (HB3a.out.alloc HB3a.out.size _) _⟩
  · obtain ⟨_, hpl, ⟨a0, a1⟩, ⟨r0, r1⟩, hfit⟩ := id hrt
    unfold plainP at hpl
    unfold fitsP at hfit
    have hm1 : kMostR 4 ≤ 2000 := by decide
    have hm2 : kMostW 4 ≤ 2000 := by decide
    have n0 : 0 ≤ n := by omega
    have n1 : n ≤ 2000 := by omega
    have q0 : 0 ≤ rn := by omega
    have q1 : rn ≤ 2000 := by omega
    clear hpl hfit hm1 hm2
    have HRt := Lib.hid hrt
    have HWd := Lib.hid hwd
    clear hrt hwd
    have ha : WholeV (w2.alloc (.cells #[.int .i64 4, .int .i64 at_, .int .i64 n, .int .u16 x, .int .u16 an, .int .u16 orr, .slice BA bl bc, .slice WA wl wc, .int .i64 ra, .int .i64 rn, .int .i64 co, .int .i64 ob] 30)) w2.heap.size 30 [.int .i64 4, .int .i64 at_, .int .i64 n, .int .u16 x, .int .u16 an, .int .u16 orr, .slice BA bl bc, .slice WA wl wc, .int .i64 ra, .int .i64 rn, .int .i64 co, .int .i64 ob] := heap_alloc_new w2 _
    have HA := Lib.hid ha
    clear ha
    go_wp2_with fail
    refine (pspans_yes 4 at_ n x an orr bl wl ra rn co ob BA WA bc wc _ HWd.out HRt.out).mono ?_
    rintro e w3 ⟨R, nr, rc, S, ns, sc, rfl, hR, hS, hb3⟩
    have h3 := HA.out.below hb3 HA.out.lt
    have HB3 : Hid (Below w.heap.size w w3) := HB2.out.trans (((Below.refl _ _).alloc (Nat.le_refl _) _).trans (hb3.mono (by simp)) |>.mono HB2.out.size)
    have hz3 : w2.heap.size < w3.heap.size := h3.lt
    obtain ⟨hq0, hq1, hq2, hq3, hq4, hq5, hq6, hq7, hq8, hq9, hq10, hq11⟩ := cells12 h3
    clear hb3 h3
    have hR' : OneRow w3 R nr (some (3, at_, at_ + n)) := hR
    obtain ⟨rfl, gr, rfl, hgr, hr0, hr1, hr2⟩ := hR'
    obtain rfl : ns = 0 := hS
    clear hR
    have HT1 : Hid (kTab 4 = 3) := rfl
    have HT2 : Hid (kHas 4 = true) := rfl
    go_wp2_with fail
    refine (table_lit 4 _ _ _ HT1.out HT2.out).mono ?_
    rintro e w' ⟨rfl, rfl⟩
    go_wp2_with fail
    have wa1 : IntKind.i64.wrap (at_ + n) = at_ + n := IntWalk.i64_in _ (by omega)
    have wa2 : IntKind.i64.wrap (at_ + n - at_) = n := by rw [show at_ + n - at_ = n by omega]; exact IntWalk.i64_in _ (by omega)
    go_loopw [9, 10, 12] (fun o s i wr => ∃ k e : Nat, k ≤ 1 ∧ i = .int .i64 (k : Int) ∧ o = .bool true ∧ ((k = 0 ∧ s = .int .i64 0) ∨ (k = 1 ∧ s = .int .i64 n)) ∧ wr = w3.drewN e) (fun _ _ i _ => 1 - (intOf i).toNat)
    case atStart => exact ⟨0, 0, by omega, rfl, rfl, .inl ⟨rfl, rfl⟩, rfl⟩
    case round =>
    obtain ⟨ka, ea, hka, rfl, rfl, hsa, rfl⟩ := hrel
    rcases hsa with ⟨rfl, rfl⟩ | ⟨hk1a, rfl⟩
    · go_wp2_with fail
      go_quiet (fail)
      go_wp2_with fail
      go_roundw
      case rel => exact ⟨1, _, by omega, rfl, rfl, .inr ⟨rfl, rfl⟩, rfl⟩
      case measure => simp [intOf]
    have hgea : ¬ (ka : Int) < 1 := by omega
    obtain ⟨w3a, hX⟩ : ∃ X, w3.drewN ea = X := ⟨_, rfl⟩
    have hq0a : w3a.cell? ⟨w2.heap.size, 0, none⟩ = some (.int .i64 4) := by rw [← hX]; exact hq0
    have hq1a : w3a.cell? ⟨w2.heap.size, 1, none⟩ = some (.int .i64 at_) := by rw [← hX]; exact hq1
    have hq2a : w3a.cell? ⟨w2.heap.size, 2, none⟩ = some (.int .i64 n) := by rw [← hX]; exact hq2
    have hq3a : w3a.cell? ⟨w2.heap.size, 3, none⟩ = some (.int .u16 x) := by rw [← hX]; exact hq3
    have hq4a : w3a.cell? ⟨w2.heap.size, 4, none⟩ = some (.int .u16 an) := by rw [← hX]; exact hq4
    have hq5a : w3a.cell? ⟨w2.heap.size, 5, none⟩ = some (.int .u16 orr) := by rw [← hX]; exact hq5
    have hq6a : w3a.cell? ⟨w2.heap.size, 6, none⟩ = some (.slice BA bl bc) := by rw [← hX]; exact hq6
    have hq7a : w3a.cell? ⟨w2.heap.size, 7, none⟩ = some (.slice WA wl wc) := by rw [← hX]; exact hq7
    have hq8a : w3a.cell? ⟨w2.heap.size, 8, none⟩ = some (.int .i64 ra) := by rw [← hX]; exact hq8
    have hq9a : w3a.cell? ⟨w2.heap.size, 9, none⟩ = some (.int .i64 rn) := by rw [← hX]; exact hq9
    have hq10a : w3a.cell? ⟨w2.heap.size, 10, none⟩ = some (.int .i64 co) := by rw [← hX]; exact hq10
    have hq11a : w3a.cell? ⟨w2.heap.size, 11, none⟩ = some (.int .i64 ob) := by rw [← hX]; exact hq11
    have hz3a : w2.heap.size < w3a.heap.size := by rw [← hX]; exact hz3
    have HB3a : Hid (Below w.heap.size w w3a) := by rw [← hX]; exact below_drewN HB3.out _
    have hgra : gr < w3a.heap.size := by rw [← hX]; exact hgr
    have hr0a : w3a.cell? ⟨gr, 0, none⟩ = some (.int .i64 3) := by rw [← hX]; exact hr0
    have hr1a : w3a.cell? ⟨gr, 1, none⟩ = some (.int .i64 at_) := by rw [← hX]; exact hr1
    have hr2a : w3a.cell? ⟨gr, 2, none⟩ = some (.int .i64 (at_ + n)) := by rw [← hX]; exact hr2
    rw [hX]
    clear hX hq0 hq1 hq2 hq3 hq4 hq5 hq6 hq7 hq8 hq9 hq10 hq11 hz3 HB3 hgr hr0 hr1 hr2
    go_wp2_with fail
    go_loopw [9, 11, 13] (fun o s i wr => o = .bool true ∧ s = .int .i64 0 ∧ i = .int .i64 0 ∧ w3a = wr) (fun _ _ _ _ => 0)
    case atStart => exact ⟨rfl, rfl, rfl, rfl⟩
    case round =>
    obtain ⟨rfl, rfl, rfl, rfl⟩ := hrel
    go_wp2_with fail
    have hge60 := guard60
    have heq60 := eq60
    go_quiet (fail)
    go_wp2
    go_ret
    exact ⟨rfl, below_drewN (HB3a.out.alloc HB3a.out.size _) _⟩
  · obtain ⟨_, hpl, ⟨a0, a1⟩, ⟨r0, r1⟩, hfit⟩ := id hrt
    unfold plainP at hpl
    unfold fitsP at hfit
    have hm1 : kMostR 5 ≤ 2000 := by decide
    have hm2 : kMostW 5 ≤ 2000 := by decide
    have n0 : 0 ≤ n := by omega
    have n1 : n ≤ 2000 := by omega
    have q0 : 0 ≤ rn := by omega
    have q1 : rn ≤ 2000 := by omega
    clear hpl hfit hm1 hm2
    have HRt := Lib.hid hrt
    have HWd := Lib.hid hwd
    clear hrt hwd
    have ha : WholeV (w2.alloc (.cells #[.int .i64 5, .int .i64 at_, .int .i64 n, .int .u16 x, .int .u16 an, .int .u16 orr, .slice BA bl bc, .slice WA wl wc, .int .i64 ra, .int .i64 rn, .int .i64 co, .int .i64 ob] 30)) w2.heap.size 30 [.int .i64 5, .int .i64 at_, .int .i64 n, .int .u16 x, .int .u16 an, .int .u16 orr, .slice BA bl bc, .slice WA wl wc, .int .i64 ra, .int .i64 rn, .int .i64 co, .int .i64 ob] := heap_alloc_new w2 _
    have HA := Lib.hid ha
    clear ha
    go_wp2_with fail
    refine (pspans_yes 5 at_ n x an orr bl wl ra rn co ob BA WA bc wc _ HWd.out HRt.out).mono ?_
    rintro e w3 ⟨R, nr, rc, S, ns, sc, rfl, hR, hS, hb3⟩
    have h3 := HA.out.below hb3 HA.out.lt
    have HB3 : Hid (Below w.heap.size w w3) := HB2.out.trans (((Below.refl _ _).alloc (Nat.le_refl _) _).trans (hb3.mono (by simp)) |>.mono HB2.out.size)
    have hz3 : w2.heap.size < w3.heap.size := h3.lt
    obtain ⟨hq0, hq1, hq2, hq3, hq4, hq5, hq6, hq7, hq8, hq9, hq10, hq11⟩ := cells12 h3
    clear hb3 h3
    obtain rfl : nr = 0 := hR
    have hS' : OneRow w3 S ns (some (0, at_, at_ + 1)) := hS
    obtain ⟨rfl, gs, rfl, hgs, hs0, hs1, hs2⟩ := hS'
    clear hS
    have HT1 : Hid (kTab 5 = 0) := rfl
    have HT2 : Hid (kHas 5 = true) := rfl
    go_wp2_with fail
    refine (table_lit 5 _ _ _ HT1.out HT2.out).mono ?_
    rintro e w' ⟨rfl, rfl⟩
    go_wp2_with fail
    go_loopw [9, 10, 12] (fun o s i wr => o = .bool true ∧ s = .int .i64 0 ∧ i = .int .i64 0 ∧ w3 = wr) (fun _ _ _ _ => 0)
    case atStart => exact ⟨rfl, rfl, rfl, rfl⟩
    case round =>
    obtain ⟨rfl, rfl, rfl, rfl⟩ := hrel
    go_wp2_with fail
    have wb1 : IntKind.i64.wrap (at_ + 1) = at_ + 1 := IntWalk.i64_in _ (by omega)
    have wb2 : IntKind.i64.wrap (at_ + 1 - at_) = 1 := by rw [show at_ + 1 - at_ = 1 by omega]; exact IntWalk.i64_in _ (by omega)
    go_loopw [9, 11, 13] (fun o s i wr => ∃ k e : Nat, k ≤ 1 ∧ i = .int .i64 (k : Int) ∧ o = .bool true ∧ ((k = 0 ∧ s = .int .i64 0) ∨ (k = 1 ∧ s = .int .i64 1)) ∧ wr = w3.drewN e) (fun _ _ i _ => 1 - (intOf i).toNat)
    case atStart => exact ⟨0, 0, by omega, rfl, rfl, .inl ⟨rfl, rfl⟩, rfl⟩
    case round =>
    obtain ⟨kb, eb, hkb, rfl, rfl, hsb, rfl⟩ := hrel
    rcases hsb with ⟨rfl, rfl⟩ | ⟨hk1b, rfl⟩
    · go_wp2_with fail
      go_quiet (fail)
      go_wp2_with fail
      go_roundw
      case rel => exact ⟨1, _, by omega, rfl, rfl, .inr ⟨rfl, rfl⟩, rfl⟩
      case measure => simp [intOf]
    have hgeb : ¬ (kb : Int) < 1 := by omega
    obtain ⟨w3b, hX⟩ : ∃ X, w3.drewN eb = X := ⟨_, rfl⟩
    have hq0b : w3b.cell? ⟨w2.heap.size, 0, none⟩ = some (.int .i64 5) := by rw [← hX]; exact hq0
    have hq1b : w3b.cell? ⟨w2.heap.size, 1, none⟩ = some (.int .i64 at_) := by rw [← hX]; exact hq1
    have hq2b : w3b.cell? ⟨w2.heap.size, 2, none⟩ = some (.int .i64 n) := by rw [← hX]; exact hq2
    have hq3b : w3b.cell? ⟨w2.heap.size, 3, none⟩ = some (.int .u16 x) := by rw [← hX]; exact hq3
    have hq4b : w3b.cell? ⟨w2.heap.size, 4, none⟩ = some (.int .u16 an) := by rw [← hX]; exact hq4
    have hq5b : w3b.cell? ⟨w2.heap.size, 5, none⟩ = some (.int .u16 orr) := by rw [← hX]; exact hq5
    have hq6b : w3b.cell? ⟨w2.heap.size, 6, none⟩ = some (.slice BA bl bc) := by rw [← hX]; exact hq6
    have hq7b : w3b.cell? ⟨w2.heap.size, 7, none⟩ = some (.slice WA wl wc) := by rw [← hX]; exact hq7
    have hq8b : w3b.cell? ⟨w2.heap.size, 8, none⟩ = some (.int .i64 ra) := by rw [← hX]; exact hq8
    have hq9b : w3b.cell? ⟨w2.heap.size, 9, none⟩ = some (.int .i64 rn) := by rw [← hX]; exact hq9
    have hq10b : w3b.cell? ⟨w2.heap.size, 10, none⟩ = some (.int .i64 co) := by rw [← hX]; exact hq10
    have hq11b : w3b.cell? ⟨w2.heap.size, 11, none⟩ = some (.int .i64 ob) := by rw [← hX]; exact hq11
    have hz3b : w2.heap.size < w3b.heap.size := by rw [← hX]; exact hz3
    have HB3b : Hid (Below w.heap.size w w3b) := by rw [← hX]; exact below_drewN HB3.out _
    have hgsb : gs < w3b.heap.size := by rw [← hX]; exact hgs
    have hs0b : w3b.cell? ⟨gs, 0, none⟩ = some (.int .i64 0) := by rw [← hX]; exact hs0
    have hs1b : w3b.cell? ⟨gs, 1, none⟩ = some (.int .i64 at_) := by rw [← hX]; exact hs1
    have hs2b : w3b.cell? ⟨gs, 2, none⟩ = some (.int .i64 (at_ + 1)) := by rw [← hX]; exact hs2
    rw [hX]
    clear hX hq0 hq1 hq2 hq3 hq4 hq5 hq6 hq7 hq8 hq9 hq10 hq11 hz3 HB3 hgs hs0 hs1 hs2
    go_wp2_with fail
    have hge60 := guard60
    have heq60 := eq60
    go_quiet (fail)
    go_wp2
    go_ret
    exact ⟨rfl, below_drewN (HB3b.out.alloc HB3b.out.size _) _⟩
  · obtain ⟨_, hpl, ⟨a0, a1⟩, ⟨r0, r1⟩, hfit⟩ := id hrt
    unfold plainP at hpl
    unfold fitsP at hfit
    have hm1 : kMostR 6 ≤ 2000 := by decide
    have hm2 : kMostW 6 ≤ 2000 := by decide
    have n0 : 0 ≤ n := by omega
    have n1 : n ≤ 2000 := by omega
    have q0 : 0 ≤ rn := by omega
    have q1 : rn ≤ 2000 := by omega
    clear hpl hfit hm1 hm2
    have HRt := Lib.hid hrt
    have HWd := Lib.hid hwd
    clear hrt hwd
    have ha : WholeV (w2.alloc (.cells #[.int .i64 6, .int .i64 at_, .int .i64 n, .int .u16 x, .int .u16 an, .int .u16 orr, .slice BA bl bc, .slice WA wl wc, .int .i64 ra, .int .i64 rn, .int .i64 co, .int .i64 ob] 30)) w2.heap.size 30 [.int .i64 6, .int .i64 at_, .int .i64 n, .int .u16 x, .int .u16 an, .int .u16 orr, .slice BA bl bc, .slice WA wl wc, .int .i64 ra, .int .i64 rn, .int .i64 co, .int .i64 ob] := heap_alloc_new w2 _
    have HA := Lib.hid ha
    clear ha
    go_wp2_with fail
    refine (pspans_yes 6 at_ n x an orr bl wl ra rn co ob BA WA bc wc _ HWd.out HRt.out).mono ?_
    rintro e w3 ⟨R, nr, rc, S, ns, sc, rfl, hR, hS, hb3⟩
    have h3 := HA.out.below hb3 HA.out.lt
    have HB3 : Hid (Below w.heap.size w w3) := HB2.out.trans (((Below.refl _ _).alloc (Nat.le_refl _) _).trans (hb3.mono (by simp)) |>.mono HB2.out.size)
    have hz3 : w2.heap.size < w3.heap.size := h3.lt
    obtain ⟨hq0, hq1, hq2, hq3, hq4, hq5, hq6, hq7, hq8, hq9, hq10, hq11⟩ := cells12 h3
    clear hb3 h3
    obtain rfl : nr = 0 := hR
    have hS' : OneRow w3 S ns (some (2, at_, at_ + 1)) := hS
    obtain ⟨rfl, gs, rfl, hgs, hs0, hs1, hs2⟩ := hS'
    clear hS
    have HT1 : Hid (kTab 6 = 2) := rfl
    have HT2 : Hid (kHas 6 = true) := rfl
    go_wp2_with fail
    refine (table_lit 6 _ _ _ HT1.out HT2.out).mono ?_
    rintro e w' ⟨rfl, rfl⟩
    go_wp2_with fail
    go_loopw [9, 10, 12] (fun o s i wr => o = .bool true ∧ s = .int .i64 0 ∧ i = .int .i64 0 ∧ w3 = wr) (fun _ _ _ _ => 0)
    case atStart => exact ⟨rfl, rfl, rfl, rfl⟩
    case round =>
    obtain ⟨rfl, rfl, rfl, rfl⟩ := hrel
    go_wp2_with fail
    have wb1 : IntKind.i64.wrap (at_ + 1) = at_ + 1 := IntWalk.i64_in _ (by omega)
    have wb2 : IntKind.i64.wrap (at_ + 1 - at_) = 1 := by rw [show at_ + 1 - at_ = 1 by omega]; exact IntWalk.i64_in _ (by omega)
    go_loopw [9, 11, 13] (fun o s i wr => ∃ k e : Nat, k ≤ 1 ∧ i = .int .i64 (k : Int) ∧ o = .bool true ∧ ((k = 0 ∧ s = .int .i64 0) ∨ (k = 1 ∧ s = .int .i64 1)) ∧ wr = w3.drewN e) (fun _ _ i _ => 1 - (intOf i).toNat)
    case atStart => exact ⟨0, 0, by omega, rfl, rfl, .inl ⟨rfl, rfl⟩, rfl⟩
    case round =>
    obtain ⟨kb, eb, hkb, rfl, rfl, hsb, rfl⟩ := hrel
    rcases hsb with ⟨rfl, rfl⟩ | ⟨hk1b, rfl⟩
    · go_wp2_with fail
      go_quiet (fail)
      go_wp2_with fail
      go_roundw
      case rel => exact ⟨1, _, by omega, rfl, rfl, .inr ⟨rfl, rfl⟩, rfl⟩
      case measure => simp [intOf]
    have hgeb : ¬ (kb : Int) < 1 := by omega
    obtain ⟨w3b, hX⟩ : ∃ X, w3.drewN eb = X := ⟨_, rfl⟩
    have hq0b : w3b.cell? ⟨w2.heap.size, 0, none⟩ = some (.int .i64 6) := by rw [← hX]; exact hq0
    have hq1b : w3b.cell? ⟨w2.heap.size, 1, none⟩ = some (.int .i64 at_) := by rw [← hX]; exact hq1
    have hq2b : w3b.cell? ⟨w2.heap.size, 2, none⟩ = some (.int .i64 n) := by rw [← hX]; exact hq2
    have hq3b : w3b.cell? ⟨w2.heap.size, 3, none⟩ = some (.int .u16 x) := by rw [← hX]; exact hq3
    have hq4b : w3b.cell? ⟨w2.heap.size, 4, none⟩ = some (.int .u16 an) := by rw [← hX]; exact hq4
    have hq5b : w3b.cell? ⟨w2.heap.size, 5, none⟩ = some (.int .u16 orr) := by rw [← hX]; exact hq5
    have hq6b : w3b.cell? ⟨w2.heap.size, 6, none⟩ = some (.slice BA bl bc) := by rw [← hX]; exact hq6
    have hq7b : w3b.cell? ⟨w2.heap.size, 7, none⟩ = some (.slice WA wl wc) := by rw [← hX]; exact hq7
    have hq8b : w3b.cell? ⟨w2.heap.size, 8, none⟩ = some (.int .i64 ra) := by rw [← hX]; exact hq8
    have hq9b : w3b.cell? ⟨w2.heap.size, 9, none⟩ = some (.int .i64 rn) := by rw [← hX]; exact hq9
    have hq10b : w3b.cell? ⟨w2.heap.size, 10, none⟩ = some (.int .i64 co) := by rw [← hX]; exact hq10
    have hq11b : w3b.cell? ⟨w2.heap.size, 11, none⟩ = some (.int .i64 ob) := by rw [← hX]; exact hq11
    have hz3b : w2.heap.size < w3b.heap.size := by rw [← hX]; exact hz3
    have HB3b : Hid (Below w.heap.size w w3b) := by rw [← hX]; exact below_drewN HB3.out _
    have hgsb : gs < w3b.heap.size := by rw [← hX]; exact hgs
    have hs0b : w3b.cell? ⟨gs, 0, none⟩ = some (.int .i64 2) := by rw [← hX]; exact hs0
    have hs1b : w3b.cell? ⟨gs, 1, none⟩ = some (.int .i64 at_) := by rw [← hX]; exact hs1
    have hs2b : w3b.cell? ⟨gs, 2, none⟩ = some (.int .i64 (at_ + 1)) := by rw [← hX]; exact hs2
    rw [hX]
    clear hX hq0 hq1 hq2 hq3 hq4 hq5 hq6 hq7 hq8 hq9 hq10 hq11 hz3 HB3 hgs hs0 hs1 hs2
    go_wp2_with fail
    have hge60 := guard60
    have heq60 := eq60
    go_quiet (fail)
    go_wp2
    go_ret
    exact ⟨rfl, below_drewN (HB3b.out.alloc HB3b.out.size _) _⟩
  · obtain ⟨_, hpl, ⟨a0, a1⟩, ⟨r0, r1⟩, hfit⟩ := id hrt
    unfold plainP at hpl
    unfold fitsP at hfit
    have hm1 : kMostR 15 ≤ 2000 := by decide
    have hm2 : kMostW 15 ≤ 2000 := by decide
    have n0 : 0 ≤ n := by omega
    have n1 : n ≤ 2000 := by omega
    have q0 : 0 ≤ rn := by omega
    have q1 : rn ≤ 2000 := by omega
    clear hpl hfit hm1 hm2
    have HRt := Lib.hid hrt
    have HWd := Lib.hid hwd
    clear hrt hwd
    have ha : WholeV (w2.alloc (.cells #[.int .i64 15, .int .i64 at_, .int .i64 n, .int .u16 x, .int .u16 an, .int .u16 orr, .slice BA bl bc, .slice WA wl wc, .int .i64 ra, .int .i64 rn, .int .i64 co, .int .i64 ob] 30)) w2.heap.size 30 [.int .i64 15, .int .i64 at_, .int .i64 n, .int .u16 x, .int .u16 an, .int .u16 orr, .slice BA bl bc, .slice WA wl wc, .int .i64 ra, .int .i64 rn, .int .i64 co, .int .i64 ob] := heap_alloc_new w2 _
    have HA := Lib.hid ha
    clear ha
    go_wp2_with fail
    refine (pspans_yes 15 at_ n x an orr bl wl ra rn co ob BA WA bc wc _ HWd.out HRt.out).mono ?_
    rintro e w3 ⟨R, nr, rc, S, ns, sc, rfl, hR, hS, hb3⟩
    have h3 := HA.out.below hb3 HA.out.lt
    have HB3 : Hid (Below w.heap.size w w3) := HB2.out.trans (((Below.refl _ _).alloc (Nat.le_refl _) _).trans (hb3.mono (by simp)) |>.mono HB2.out.size)
    have hz3 : w2.heap.size < w3.heap.size := h3.lt
    obtain ⟨hq0, hq1, hq2, hq3, hq4, hq5, hq6, hq7, hq8, hq9, hq10, hq11⟩ := cells12 h3
    clear hb3 h3
    obtain rfl : nr = 0 := hR
    have hS' : OneRow w3 S ns (some (0, at_, at_ + n)) := hS
    obtain ⟨rfl, gs, rfl, hgs, hs0, hs1, hs2⟩ := hS'
    clear hS
    have HT1 : Hid (kTab 15 = 0) := rfl
    have HT2 : Hid (kHas 15 = true) := rfl
    go_wp2_with fail
    refine (table_lit 15 _ _ _ HT1.out HT2.out).mono ?_
    rintro e w' ⟨rfl, rfl⟩
    go_wp2_with fail
    go_loopw [9, 10, 12] (fun o s i wr => o = .bool true ∧ s = .int .i64 0 ∧ i = .int .i64 0 ∧ w3 = wr) (fun _ _ _ _ => 0)
    case atStart => exact ⟨rfl, rfl, rfl, rfl⟩
    case round =>
    obtain ⟨rfl, rfl, rfl, rfl⟩ := hrel
    go_wp2_with fail
    have wb1 : IntKind.i64.wrap (at_ + n) = at_ + n := IntWalk.i64_in _ (by omega)
    have wb2 : IntKind.i64.wrap (at_ + n - at_) = n := by rw [show at_ + n - at_ = n by omega]; exact IntWalk.i64_in _ (by omega)
    go_loopw [9, 11, 13] (fun o s i wr => ∃ k e : Nat, k ≤ 1 ∧ i = .int .i64 (k : Int) ∧ o = .bool true ∧ ((k = 0 ∧ s = .int .i64 0) ∨ (k = 1 ∧ s = .int .i64 n)) ∧ wr = w3.drewN e) (fun _ _ i _ => 1 - (intOf i).toNat)
    case atStart => exact ⟨0, 0, by omega, rfl, rfl, .inl ⟨rfl, rfl⟩, rfl⟩
    case round =>
    obtain ⟨kb, eb, hkb, rfl, rfl, hsb, rfl⟩ := hrel
    rcases hsb with ⟨rfl, rfl⟩ | ⟨hk1b, rfl⟩
    · go_wp2_with fail
      go_quiet (fail)
      go_wp2_with fail
      go_roundw
      case rel => exact ⟨1, _, by omega, rfl, rfl, .inr ⟨rfl, rfl⟩, rfl⟩
      case measure => simp [intOf]
    have hgeb : ¬ (kb : Int) < 1 := by omega
    obtain ⟨w3b, hX⟩ : ∃ X, w3.drewN eb = X := ⟨_, rfl⟩
    have hq0b : w3b.cell? ⟨w2.heap.size, 0, none⟩ = some (.int .i64 15) := by rw [← hX]; exact hq0
    have hq1b : w3b.cell? ⟨w2.heap.size, 1, none⟩ = some (.int .i64 at_) := by rw [← hX]; exact hq1
    have hq2b : w3b.cell? ⟨w2.heap.size, 2, none⟩ = some (.int .i64 n) := by rw [← hX]; exact hq2
    have hq3b : w3b.cell? ⟨w2.heap.size, 3, none⟩ = some (.int .u16 x) := by rw [← hX]; exact hq3
    have hq4b : w3b.cell? ⟨w2.heap.size, 4, none⟩ = some (.int .u16 an) := by rw [← hX]; exact hq4
    have hq5b : w3b.cell? ⟨w2.heap.size, 5, none⟩ = some (.int .u16 orr) := by rw [← hX]; exact hq5
    have hq6b : w3b.cell? ⟨w2.heap.size, 6, none⟩ = some (.slice BA bl bc) := by rw [← hX]; exact hq6
    have hq7b : w3b.cell? ⟨w2.heap.size, 7, none⟩ = some (.slice WA wl wc) := by rw [← hX]; exact hq7
    have hq8b : w3b.cell? ⟨w2.heap.size, 8, none⟩ = some (.int .i64 ra) := by rw [← hX]; exact hq8
    have hq9b : w3b.cell? ⟨w2.heap.size, 9, none⟩ = some (.int .i64 rn) := by rw [← hX]; exact hq9
    have hq10b : w3b.cell? ⟨w2.heap.size, 10, none⟩ = some (.int .i64 co) := by rw [← hX]; exact hq10
    have hq11b : w3b.cell? ⟨w2.heap.size, 11, none⟩ = some (.int .i64 ob) := by rw [← hX]; exact hq11
    have hz3b : w2.heap.size < w3b.heap.size := by rw [← hX]; exact hz3
    have HB3b : Hid (Below w.heap.size w w3b) := by rw [← hX]; exact below_drewN HB3.out _
    have hgsb : gs < w3b.heap.size := by rw [← hX]; exact hgs
    have hs0b : w3b.cell? ⟨gs, 0, none⟩ = some (.int .i64 0) := by rw [← hX]; exact hs0
    have hs1b : w3b.cell? ⟨gs, 1, none⟩ = some (.int .i64 at_) := by rw [← hX]; exact hs1
    have hs2b : w3b.cell? ⟨gs, 2, none⟩ = some (.int .i64 (at_ + n)) := by rw [← hX]; exact hs2
    rw [hX]
    clear hX hq0 hq1 hq2 hq3 hq4 hq5 hq6 hq7 hq8 hq9 hq10 hq11 hz3 HB3 hgs hs0 hs1 hs2
    go_wp2_with fail
    have hge60 := guard60
    have heq60 := eq60
    go_quiet (fail)
    go_wp2
    go_ret
    exact ⟨rfl, below_drewN (HB3b.out.alloc HB3b.out.size _) _⟩
  · obtain ⟨_, hpl, ⟨a0, a1⟩, ⟨r0, r1⟩, hfit⟩ := id hrt
    unfold plainP at hpl
    unfold fitsP at hfit
    have hm1 : kMostR 16 ≤ 2000 := by decide
    have hm2 : kMostW 16 ≤ 2000 := by decide
    have n0 : 0 ≤ n := by omega
    have n1 : n ≤ 2000 := by omega
    have q0 : 0 ≤ rn := by omega
    have q1 : rn ≤ 2000 := by omega
    clear hpl hfit hm1 hm2
    have HRt := Lib.hid hrt
    have HWd := Lib.hid hwd
    clear hrt hwd
    have ha : WholeV (w2.alloc (.cells #[.int .i64 16, .int .i64 at_, .int .i64 n, .int .u16 x, .int .u16 an, .int .u16 orr, .slice BA bl bc, .slice WA wl wc, .int .i64 ra, .int .i64 rn, .int .i64 co, .int .i64 ob] 30)) w2.heap.size 30 [.int .i64 16, .int .i64 at_, .int .i64 n, .int .u16 x, .int .u16 an, .int .u16 orr, .slice BA bl bc, .slice WA wl wc, .int .i64 ra, .int .i64 rn, .int .i64 co, .int .i64 ob] := heap_alloc_new w2 _
    have HA := Lib.hid ha
    clear ha
    go_wp2_with fail
    refine (pspans_yes 16 at_ n x an orr bl wl ra rn co ob BA WA bc wc _ HWd.out HRt.out).mono ?_
    rintro e w3 ⟨R, nr, rc, S, ns, sc, rfl, hR, hS, hb3⟩
    have h3 := HA.out.below hb3 HA.out.lt
    have HB3 : Hid (Below w.heap.size w w3) := HB2.out.trans (((Below.refl _ _).alloc (Nat.le_refl _) _).trans (hb3.mono (by simp)) |>.mono HB2.out.size)
    have hz3 : w2.heap.size < w3.heap.size := h3.lt
    obtain ⟨hq0, hq1, hq2, hq3, hq4, hq5, hq6, hq7, hq8, hq9, hq10, hq11⟩ := cells12 h3
    clear hb3 h3
    obtain rfl : nr = 0 := hR
    have hS' : OneRow w3 S ns (some (2, at_, at_ + n)) := hS
    obtain ⟨rfl, gs, rfl, hgs, hs0, hs1, hs2⟩ := hS'
    clear hS
    have HT1 : Hid (kTab 16 = 2) := rfl
    have HT2 : Hid (kHas 16 = true) := rfl
    go_wp2_with fail
    refine (table_lit 16 _ _ _ HT1.out HT2.out).mono ?_
    rintro e w' ⟨rfl, rfl⟩
    go_wp2_with fail
    go_loopw [9, 10, 12] (fun o s i wr => o = .bool true ∧ s = .int .i64 0 ∧ i = .int .i64 0 ∧ w3 = wr) (fun _ _ _ _ => 0)
    case atStart => exact ⟨rfl, rfl, rfl, rfl⟩
    case round =>
    obtain ⟨rfl, rfl, rfl, rfl⟩ := hrel
    go_wp2_with fail
    have wb1 : IntKind.i64.wrap (at_ + n) = at_ + n := IntWalk.i64_in _ (by omega)
    have wb2 : IntKind.i64.wrap (at_ + n - at_) = n := by rw [show at_ + n - at_ = n by omega]; exact IntWalk.i64_in _ (by omega)
    go_loopw [9, 11, 13] (fun o s i wr => ∃ k e : Nat, k ≤ 1 ∧ i = .int .i64 (k : Int) ∧ o = .bool true ∧ ((k = 0 ∧ s = .int .i64 0) ∨ (k = 1 ∧ s = .int .i64 n)) ∧ wr = w3.drewN e) (fun _ _ i _ => 1 - (intOf i).toNat)
    case atStart => exact ⟨0, 0, by omega, rfl, rfl, .inl ⟨rfl, rfl⟩, rfl⟩
    case round =>
    obtain ⟨kb, eb, hkb, rfl, rfl, hsb, rfl⟩ := hrel
    rcases hsb with ⟨rfl, rfl⟩ | ⟨hk1b, rfl⟩
    · go_wp2_with fail
      go_quiet (fail)
      go_wp2_with fail
      go_roundw
      case rel => exact ⟨1, _, by omega, rfl, rfl, .inr ⟨rfl, rfl⟩, rfl⟩
      case measure => simp [intOf]
    have hgeb : ¬ (kb : Int) < 1 := by omega
    obtain ⟨w3b, hX⟩ : ∃ X, w3.drewN eb = X := ⟨_, rfl⟩
    have hq0b : w3b.cell? ⟨w2.heap.size, 0, none⟩ = some (.int .i64 16) := by rw [← hX]; exact hq0
    have hq1b : w3b.cell? ⟨w2.heap.size, 1, none⟩ = some (.int .i64 at_) := by rw [← hX]; exact hq1
    have hq2b : w3b.cell? ⟨w2.heap.size, 2, none⟩ = some (.int .i64 n) := by rw [← hX]; exact hq2
    have hq3b : w3b.cell? ⟨w2.heap.size, 3, none⟩ = some (.int .u16 x) := by rw [← hX]; exact hq3
    have hq4b : w3b.cell? ⟨w2.heap.size, 4, none⟩ = some (.int .u16 an) := by rw [← hX]; exact hq4
    have hq5b : w3b.cell? ⟨w2.heap.size, 5, none⟩ = some (.int .u16 orr) := by rw [← hX]; exact hq5
    have hq6b : w3b.cell? ⟨w2.heap.size, 6, none⟩ = some (.slice BA bl bc) := by rw [← hX]; exact hq6
    have hq7b : w3b.cell? ⟨w2.heap.size, 7, none⟩ = some (.slice WA wl wc) := by rw [← hX]; exact hq7
    have hq8b : w3b.cell? ⟨w2.heap.size, 8, none⟩ = some (.int .i64 ra) := by rw [← hX]; exact hq8
    have hq9b : w3b.cell? ⟨w2.heap.size, 9, none⟩ = some (.int .i64 rn) := by rw [← hX]; exact hq9
    have hq10b : w3b.cell? ⟨w2.heap.size, 10, none⟩ = some (.int .i64 co) := by rw [← hX]; exact hq10
    have hq11b : w3b.cell? ⟨w2.heap.size, 11, none⟩ = some (.int .i64 ob) := by rw [← hX]; exact hq11
    have hz3b : w2.heap.size < w3b.heap.size := by rw [← hX]; exact hz3
    have HB3b : Hid (Below w.heap.size w w3b) := by rw [← hX]; exact below_drewN HB3.out _
    have hgsb : gs < w3b.heap.size := by rw [← hX]; exact hgs
    have hs0b : w3b.cell? ⟨gs, 0, none⟩ = some (.int .i64 2) := by rw [← hX]; exact hs0
    have hs1b : w3b.cell? ⟨gs, 1, none⟩ = some (.int .i64 at_) := by rw [← hX]; exact hs1
    have hs2b : w3b.cell? ⟨gs, 2, none⟩ = some (.int .i64 (at_ + n)) := by rw [← hX]; exact hs2
    rw [hX]
    clear hX hq0 hq1 hq2 hq3 hq4 hq5 hq6 hq7 hq8 hq9 hq10 hq11 hz3 HB3 hgs hs0 hs1 hs2
    go_wp2_with fail
    have hge60 := guard60
    have heq60 := eq60
    go_quiet (fail)
    go_wp2
    go_ret
    exact ⟨rfl, below_drewN (HB3b.out.alloc HB3b.out.size _) _⟩
  · obtain ⟨_, hpl, ⟨a0, a1⟩, ⟨r0, r1⟩, hfit⟩ := id hrt
    unfold plainP at hpl
    unfold fitsP at hfit
    have hm1 : kMostR 22 ≤ 2000 := by decide
    have hm2 : kMostW 22 ≤ 2000 := by decide
    have n0 : 0 ≤ n := by omega
    have n1 : n ≤ 2000 := by omega
    have q0 : 0 ≤ rn := by omega
    have q1 : rn ≤ 2000 := by omega
    clear hpl hfit hm1 hm2
    have HRt := Lib.hid hrt
    have HWd := Lib.hid hwd
    clear hrt hwd
    have ha : WholeV (w2.alloc (.cells #[.int .i64 22, .int .i64 at_, .int .i64 n, .int .u16 x, .int .u16 an, .int .u16 orr, .slice BA bl bc, .slice WA wl wc, .int .i64 ra, .int .i64 rn, .int .i64 co, .int .i64 ob] 30)) w2.heap.size 30 [.int .i64 22, .int .i64 at_, .int .i64 n, .int .u16 x, .int .u16 an, .int .u16 orr, .slice BA bl bc, .slice WA wl wc, .int .i64 ra, .int .i64 rn, .int .i64 co, .int .i64 ob] := heap_alloc_new w2 _
    have HA := Lib.hid ha
    clear ha
    go_wp2_with fail
    refine (pspans_yes 22 at_ n x an orr bl wl ra rn co ob BA WA bc wc _ HWd.out HRt.out).mono ?_
    rintro e w3 ⟨R, nr, rc, S, ns, sc, rfl, hR, hS, hb3⟩
    have h3 := HA.out.below hb3 HA.out.lt
    have HB3 : Hid (Below w.heap.size w w3) := HB2.out.trans (((Below.refl _ _).alloc (Nat.le_refl _) _).trans (hb3.mono (by simp)) |>.mono HB2.out.size)
    have hz3 : w2.heap.size < w3.heap.size := h3.lt
    obtain ⟨hq0, hq1, hq2, hq3, hq4, hq5, hq6, hq7, hq8, hq9, hq10, hq11⟩ := cells12 h3
    clear hb3 h3
    obtain rfl : nr = 0 := hR
    have hS' : OneRow w3 S ns (some (2, at_, at_ + 1)) := hS
    obtain ⟨rfl, gs, rfl, hgs, hs0, hs1, hs2⟩ := hS'
    clear hS
    have HT1 : Hid (kTab 22 = 2) := rfl
    have HT2 : Hid (kHas 22 = true) := rfl
    go_wp2_with fail
    refine (table_lit 22 _ _ _ HT1.out HT2.out).mono ?_
    rintro e w' ⟨rfl, rfl⟩
    go_wp2_with fail
    go_loopw [9, 10, 12] (fun o s i wr => o = .bool true ∧ s = .int .i64 0 ∧ i = .int .i64 0 ∧ w3 = wr) (fun _ _ _ _ => 0)
    case atStart => exact ⟨rfl, rfl, rfl, rfl⟩
    case round =>
    obtain ⟨rfl, rfl, rfl, rfl⟩ := hrel
    go_wp2_with fail
    have wb1 : IntKind.i64.wrap (at_ + 1) = at_ + 1 := IntWalk.i64_in _ (by omega)
    have wb2 : IntKind.i64.wrap (at_ + 1 - at_) = 1 := by rw [show at_ + 1 - at_ = 1 by omega]; exact IntWalk.i64_in _ (by omega)
    go_loopw [9, 11, 13] (fun o s i wr => ∃ k e : Nat, k ≤ 1 ∧ i = .int .i64 (k : Int) ∧ o = .bool true ∧ ((k = 0 ∧ s = .int .i64 0) ∨ (k = 1 ∧ s = .int .i64 1)) ∧ wr = w3.drewN e) (fun _ _ i _ => 1 - (intOf i).toNat)
    case atStart => exact ⟨0, 0, by omega, rfl, rfl, .inl ⟨rfl, rfl⟩, rfl⟩
    case round =>
    obtain ⟨kb, eb, hkb, rfl, rfl, hsb, rfl⟩ := hrel
    rcases hsb with ⟨rfl, rfl⟩ | ⟨hk1b, rfl⟩
    · go_wp2_with fail
      go_quiet (fail)
      go_wp2_with fail
      go_roundw
      case rel => exact ⟨1, _, by omega, rfl, rfl, .inr ⟨rfl, rfl⟩, rfl⟩
      case measure => simp [intOf]
    have hgeb : ¬ (kb : Int) < 1 := by omega
    obtain ⟨w3b, hX⟩ : ∃ X, w3.drewN eb = X := ⟨_, rfl⟩
    have hq0b : w3b.cell? ⟨w2.heap.size, 0, none⟩ = some (.int .i64 22) := by rw [← hX]; exact hq0
    have hq1b : w3b.cell? ⟨w2.heap.size, 1, none⟩ = some (.int .i64 at_) := by rw [← hX]; exact hq1
    have hq2b : w3b.cell? ⟨w2.heap.size, 2, none⟩ = some (.int .i64 n) := by rw [← hX]; exact hq2
    have hq3b : w3b.cell? ⟨w2.heap.size, 3, none⟩ = some (.int .u16 x) := by rw [← hX]; exact hq3
    have hq4b : w3b.cell? ⟨w2.heap.size, 4, none⟩ = some (.int .u16 an) := by rw [← hX]; exact hq4
    have hq5b : w3b.cell? ⟨w2.heap.size, 5, none⟩ = some (.int .u16 orr) := by rw [← hX]; exact hq5
    have hq6b : w3b.cell? ⟨w2.heap.size, 6, none⟩ = some (.slice BA bl bc) := by rw [← hX]; exact hq6
    have hq7b : w3b.cell? ⟨w2.heap.size, 7, none⟩ = some (.slice WA wl wc) := by rw [← hX]; exact hq7
    have hq8b : w3b.cell? ⟨w2.heap.size, 8, none⟩ = some (.int .i64 ra) := by rw [← hX]; exact hq8
    have hq9b : w3b.cell? ⟨w2.heap.size, 9, none⟩ = some (.int .i64 rn) := by rw [← hX]; exact hq9
    have hq10b : w3b.cell? ⟨w2.heap.size, 10, none⟩ = some (.int .i64 co) := by rw [← hX]; exact hq10
    have hq11b : w3b.cell? ⟨w2.heap.size, 11, none⟩ = some (.int .i64 ob) := by rw [← hX]; exact hq11
    have hz3b : w2.heap.size < w3b.heap.size := by rw [← hX]; exact hz3
    have HB3b : Hid (Below w.heap.size w w3b) := by rw [← hX]; exact below_drewN HB3.out _
    have hgsb : gs < w3b.heap.size := by rw [← hX]; exact hgs
    have hs0b : w3b.cell? ⟨gs, 0, none⟩ = some (.int .i64 2) := by rw [← hX]; exact hs0
    have hs1b : w3b.cell? ⟨gs, 1, none⟩ = some (.int .i64 at_) := by rw [← hX]; exact hs1
    have hs2b : w3b.cell? ⟨gs, 2, none⟩ = some (.int .i64 (at_ + 1)) := by rw [← hX]; exact hs2
    rw [hX]
    clear hX hq0 hq1 hq2 hq3 hq4 hq5 hq6 hq7 hq8 hq9 hq10 hq11 hz3 HB3 hgs hs0 hs1 hs2
    go_wp2_with fail
    have hge60 := guard60
    have heq60 := eq60
    go_quiet (fail)
    go_wp2
    go_ret
    exact ⟨rfl, below_drewN (HB3b.out.alloc HB3b.out.size _) _⟩
  · obtain ⟨_, hpl, ⟨a0, a1⟩, ⟨r0, r1⟩, hfit⟩ := id hrt
    unfold plainP at hpl
    unfold fitsP at hfit
    have hm1 : kMostR 23 ≤ 2000 := by decide
    have hm2 : kMostW 23 ≤ 2000 := by decide
    have n0 : 0 ≤ n := by omega
    have n1 : n ≤ 2000 := by omega
    have q0 : 0 ≤ rn := by omega
    have q1 : rn ≤ 2000 := by omega
    clear hpl hfit hm1 hm2
    have HRt := Lib.hid hrt
    have HWd := Lib.hid hwd
    clear hrt hwd
    have ha : WholeV (w2.alloc (.cells #[.int .i64 23, .int .i64 at_, .int .i64 n, .int .u16 x, .int .u16 an, .int .u16 orr, .slice BA bl bc, .slice WA wl wc, .int .i64 ra, .int .i64 rn, .int .i64 co, .int .i64 ob] 30)) w2.heap.size 30 [.int .i64 23, .int .i64 at_, .int .i64 n, .int .u16 x, .int .u16 an, .int .u16 orr, .slice BA bl bc, .slice WA wl wc, .int .i64 ra, .int .i64 rn, .int .i64 co, .int .i64 ob] := heap_alloc_new w2 _
    have HA := Lib.hid ha
    clear ha
    go_wp2_with fail
    refine (pspans_yes 23 at_ n x an orr bl wl ra rn co ob BA WA bc wc _ HWd.out HRt.out).mono ?_
    rintro e w3 ⟨R, nr, rc, S, ns, sc, rfl, hR, hS, hb3⟩
    have h3 := HA.out.below hb3 HA.out.lt
    have HB3 : Hid (Below w.heap.size w w3) := HB2.out.trans (((Below.refl _ _).alloc (Nat.le_refl _) _).trans (hb3.mono (by simp)) |>.mono HB2.out.size)
    have hz3 : w2.heap.size < w3.heap.size := h3.lt
    obtain ⟨hq0, hq1, hq2, hq3, hq4, hq5, hq6, hq7, hq8, hq9, hq10, hq11⟩ := cells12 h3
    clear hb3 h3
    have hR' : OneRow w3 R nr (some (2, ra, ra + rn)) := hR
    obtain ⟨rfl, gr, rfl, hgr, hr0, hr1, hr2⟩ := hR'
    have hS' : OneRow w3 S ns (some (2, at_, at_ + n)) := hS
    obtain ⟨rfl, gs, rfl, hgs, hs0, hs1, hs2⟩ := hS'
    clear hR
    clear hS
    have HT1 : Hid (kTab 23 = 2) := rfl
    have HT2 : Hid (kHas 23 = true) := rfl
    go_wp2_with fail
    refine (table_lit 23 _ _ _ HT1.out HT2.out).mono ?_
    rintro e w' ⟨rfl, rfl⟩
    go_wp2_with fail
    have wa1 : IntKind.i64.wrap (ra + rn) = ra + rn := IntWalk.i64_in _ (by omega)
    have wa2 : IntKind.i64.wrap (ra + rn - ra) = rn := by rw [show ra + rn - ra = rn by omega]; exact IntWalk.i64_in _ (by omega)
    go_loopw [9, 10, 12] (fun o s i wr => ∃ k e : Nat, k ≤ 1 ∧ i = .int .i64 (k : Int) ∧ o = .bool true ∧ ((k = 0 ∧ s = .int .i64 0) ∨ (k = 1 ∧ s = .int .i64 rn)) ∧ wr = w3.drewN e) (fun _ _ i _ => 1 - (intOf i).toNat)
    case atStart => exact ⟨0, 0, by omega, rfl, rfl, .inl ⟨rfl, rfl⟩, rfl⟩
    case round =>
    obtain ⟨ka, ea, hka, rfl, rfl, hsa, rfl⟩ := hrel
    rcases hsa with ⟨rfl, rfl⟩ | ⟨hk1a, rfl⟩
    · go_wp2_with fail
      go_quiet (fail)
      go_wp2_with fail
      go_roundw
      case rel => exact ⟨1, _, by omega, rfl, rfl, .inr ⟨rfl, rfl⟩, rfl⟩
      case measure => simp [intOf]
    have hgea : ¬ (ka : Int) < 1 := by omega
    obtain ⟨w3a, hX⟩ : ∃ X, w3.drewN ea = X := ⟨_, rfl⟩
    have hq0a : w3a.cell? ⟨w2.heap.size, 0, none⟩ = some (.int .i64 23) := by rw [← hX]; exact hq0
    have hq1a : w3a.cell? ⟨w2.heap.size, 1, none⟩ = some (.int .i64 at_) := by rw [← hX]; exact hq1
    have hq2a : w3a.cell? ⟨w2.heap.size, 2, none⟩ = some (.int .i64 n) := by rw [← hX]; exact hq2
    have hq3a : w3a.cell? ⟨w2.heap.size, 3, none⟩ = some (.int .u16 x) := by rw [← hX]; exact hq3
    have hq4a : w3a.cell? ⟨w2.heap.size, 4, none⟩ = some (.int .u16 an) := by rw [← hX]; exact hq4
    have hq5a : w3a.cell? ⟨w2.heap.size, 5, none⟩ = some (.int .u16 orr) := by rw [← hX]; exact hq5
    have hq6a : w3a.cell? ⟨w2.heap.size, 6, none⟩ = some (.slice BA bl bc) := by rw [← hX]; exact hq6
    have hq7a : w3a.cell? ⟨w2.heap.size, 7, none⟩ = some (.slice WA wl wc) := by rw [← hX]; exact hq7
    have hq8a : w3a.cell? ⟨w2.heap.size, 8, none⟩ = some (.int .i64 ra) := by rw [← hX]; exact hq8
    have hq9a : w3a.cell? ⟨w2.heap.size, 9, none⟩ = some (.int .i64 rn) := by rw [← hX]; exact hq9
    have hq10a : w3a.cell? ⟨w2.heap.size, 10, none⟩ = some (.int .i64 co) := by rw [← hX]; exact hq10
    have hq11a : w3a.cell? ⟨w2.heap.size, 11, none⟩ = some (.int .i64 ob) := by rw [← hX]; exact hq11
    have hz3a : w2.heap.size < w3a.heap.size := by rw [← hX]; exact hz3
    have HB3a : Hid (Below w.heap.size w w3a) := by rw [← hX]; exact below_drewN HB3.out _
    have hgra : gr < w3a.heap.size := by rw [← hX]; exact hgr
    have hr0a : w3a.cell? ⟨gr, 0, none⟩ = some (.int .i64 2) := by rw [← hX]; exact hr0
    have hr1a : w3a.cell? ⟨gr, 1, none⟩ = some (.int .i64 ra) := by rw [← hX]; exact hr1
    have hr2a : w3a.cell? ⟨gr, 2, none⟩ = some (.int .i64 (ra + rn)) := by rw [← hX]; exact hr2
    have hgsa : gs < w3a.heap.size := by rw [← hX]; exact hgs
    have hs0a : w3a.cell? ⟨gs, 0, none⟩ = some (.int .i64 2) := by rw [← hX]; exact hs0
    have hs1a : w3a.cell? ⟨gs, 1, none⟩ = some (.int .i64 at_) := by rw [← hX]; exact hs1
    have hs2a : w3a.cell? ⟨gs, 2, none⟩ = some (.int .i64 (at_ + n)) := by rw [← hX]; exact hs2
    rw [hX]
    clear hX hq0 hq1 hq2 hq3 hq4 hq5 hq6 hq7 hq8 hq9 hq10 hq11 hz3 HB3 hgr hr0 hr1 hr2 hgs hs0 hs1 hs2
    go_wp2_with fail
    have wb1 : IntKind.i64.wrap (at_ + n) = at_ + n := IntWalk.i64_in _ (by omega)
    have wb2 : IntKind.i64.wrap (at_ + n - at_) = n := by rw [show at_ + n - at_ = n by omega]; exact IntWalk.i64_in _ (by omega)
    go_loopw [9, 11, 13] (fun o s i wr => ∃ k e : Nat, k ≤ 1 ∧ i = .int .i64 (k : Int) ∧ o = .bool true ∧ ((k = 0 ∧ s = .int .i64 0) ∨ (k = 1 ∧ s = .int .i64 n)) ∧ wr = w3a.drewN e) (fun _ _ i _ => 1 - (intOf i).toNat)
    case atStart => exact ⟨0, 0, by omega, rfl, rfl, .inl ⟨rfl, rfl⟩, rfl⟩
    case round =>
    obtain ⟨kb, eb, hkb, rfl, rfl, hsb, rfl⟩ := hrel
    rcases hsb with ⟨rfl, rfl⟩ | ⟨hk1b, rfl⟩
    · go_wp2_with fail
      go_quiet (fail)
      go_wp2_with fail
      go_roundw
      case rel => exact ⟨1, _, by omega, rfl, rfl, .inr ⟨rfl, rfl⟩, rfl⟩
      case measure => simp [intOf]
    have hgeb : ¬ (kb : Int) < 1 := by omega
    obtain ⟨w3b, hX⟩ : ∃ X, w3a.drewN eb = X := ⟨_, rfl⟩
    have hq0ab : w3b.cell? ⟨w2.heap.size, 0, none⟩ = some (.int .i64 23) := by rw [← hX]; exact hq0a
    have hq1ab : w3b.cell? ⟨w2.heap.size, 1, none⟩ = some (.int .i64 at_) := by rw [← hX]; exact hq1a
    have hq2ab : w3b.cell? ⟨w2.heap.size, 2, none⟩ = some (.int .i64 n) := by rw [← hX]; exact hq2a
    have hq3ab : w3b.cell? ⟨w2.heap.size, 3, none⟩ = some (.int .u16 x) := by rw [← hX]; exact hq3a
    have hq4ab : w3b.cell? ⟨w2.heap.size, 4, none⟩ = some (.int .u16 an) := by rw [← hX]; exact hq4a
    have hq5ab : w3b.cell? ⟨w2.heap.size, 5, none⟩ = some (.int .u16 orr) := by rw [← hX]; exact hq5a
    have hq6ab : w3b.cell? ⟨w2.heap.size, 6, none⟩ = some (.slice BA bl bc) := by rw [← hX]; exact hq6a
    have hq7ab : w3b.cell? ⟨w2.heap.size, 7, none⟩ = some (.slice WA wl wc) := by rw [← hX]; exact hq7a
    have hq8ab : w3b.cell? ⟨w2.heap.size, 8, none⟩ = some (.int .i64 ra) := by rw [← hX]; exact hq8a
    have hq9ab : w3b.cell? ⟨w2.heap.size, 9, none⟩ = some (.int .i64 rn) := by rw [← hX]; exact hq9a
    have hq10ab : w3b.cell? ⟨w2.heap.size, 10, none⟩ = some (.int .i64 co) := by rw [← hX]; exact hq10a
    have hq11ab : w3b.cell? ⟨w2.heap.size, 11, none⟩ = some (.int .i64 ob) := by rw [← hX]; exact hq11a
    have hz3ab : w2.heap.size < w3b.heap.size := by rw [← hX]; exact hz3a
    have HB3ab : Hid (Below w.heap.size w w3b) := by rw [← hX]; exact below_drewN HB3a.out _
    have hgrab : gr < w3b.heap.size := by rw [← hX]; exact hgra
    have hr0ab : w3b.cell? ⟨gr, 0, none⟩ = some (.int .i64 2) := by rw [← hX]; exact hr0a
    have hr1ab : w3b.cell? ⟨gr, 1, none⟩ = some (.int .i64 ra) := by rw [← hX]; exact hr1a
    have hr2ab : w3b.cell? ⟨gr, 2, none⟩ = some (.int .i64 (ra + rn)) := by rw [← hX]; exact hr2a
    have hgsab : gs < w3b.heap.size := by rw [← hX]; exact hgsa
    have hs0ab : w3b.cell? ⟨gs, 0, none⟩ = some (.int .i64 2) := by rw [← hX]; exact hs0a
    have hs1ab : w3b.cell? ⟨gs, 1, none⟩ = some (.int .i64 at_) := by rw [← hX]; exact hs1a
    have hs2ab : w3b.cell? ⟨gs, 2, none⟩ = some (.int .i64 (at_ + n)) := by rw [← hX]; exact hs2a
    rw [hX]
    clear hX hq0a hq1a hq2a hq3a hq4a hq5a hq6a hq7a hq8a hq9a hq10a hq11a hz3a HB3a hgra hr0a hr1a hr2a hgsa hs0a hs1a hs2a
    go_wp2_with fail
    have hge60 := guard60
    have heq60 := eq60
    go_quiet (fail)
    go_wp2
    go_ret
    exact ⟨rfl, below_drewN (HB3ab.out.alloc HB3ab.out.size _) _⟩
  · obtain ⟨_, hpl, ⟨a0, a1⟩, ⟨r0, r1⟩, hfit⟩ := id hrt
    unfold plainP at hpl
    unfold fitsP at hfit
    have hm1 : kMostR 43 ≤ 2000 := by decide
    have hm2 : kMostW 43 ≤ 2000 := by decide
    have n0 : 0 ≤ n := by omega
    have n1 : n ≤ 2000 := by omega
    have q0 : 0 ≤ rn := by omega
    have q1 : rn ≤ 2000 := by omega
    clear hpl hfit hm1 hm2
    have HRt := Lib.hid hrt
    have HWd := Lib.hid hwd
    clear hrt hwd
    have ha : WholeV (w2.alloc (.cells #[.int .i64 43, .int .i64 at_, .int .i64 n, .int .u16 x, .int .u16 an, .int .u16 orr, .slice BA bl bc, .slice WA wl wc, .int .i64 ra, .int .i64 rn, .int .i64 co, .int .i64 ob] 30)) w2.heap.size 30 [.int .i64 43, .int .i64 at_, .int .i64 n, .int .u16 x, .int .u16 an, .int .u16 orr, .slice BA bl bc, .slice WA wl wc, .int .i64 ra, .int .i64 rn, .int .i64 co, .int .i64 ob] := heap_alloc_new w2 _
    have HA := Lib.hid ha
    clear ha
    go_wp2_with fail
    refine (pspans_yes 43 at_ n x an orr bl wl ra rn co ob BA WA bc wc _ HWd.out HRt.out).mono ?_
    rintro e w3 ⟨R, nr, rc, S, ns, sc, rfl, hR, hS, hb3⟩
    have h3 := HA.out.below hb3 HA.out.lt
    have HB3 : Hid (Below w.heap.size w w3) := HB2.out.trans (((Below.refl _ _).alloc (Nat.le_refl _) _).trans (hb3.mono (by simp)) |>.mono HB2.out.size)
    have hz3 : w2.heap.size < w3.heap.size := h3.lt
    obtain ⟨hq0, hq1, hq2, hq3, hq4, hq5, hq6, hq7, hq8, hq9, hq10, hq11⟩ := cells12 h3
    clear hb3 h3
    obtain rfl : nr = 0 := hR
    obtain rfl : ns = 0 := hS
    have HT1 : Hid (kTab 43 = 0) := rfl
    have HT2 : Hid (kHas 43 = false) := rfl
    go_wp2_with fail
    refine (table_lit 43 _ _ _ HT1.out HT2.out).mono ?_
    rintro e w' ⟨rfl, rfl⟩
    go_wp2_with fail
    go_loopw [9, 10, 12] (fun o s i wr => o = .bool false ∧ s = .int .i64 0 ∧ i = .int .i64 0 ∧ w3 = wr) (fun _ _ _ _ => 0)
    case atStart => exact ⟨rfl, rfl, rfl, rfl⟩
    case round =>
    obtain ⟨rfl, rfl, rfl, rfl⟩ := hrel
    go_wp2_with fail
    go_loopw [9, 11, 13] (fun o s i wr => o = .bool false ∧ s = .int .i64 0 ∧ i = .int .i64 0 ∧ w3 = wr) (fun _ _ _ _ => 0)
    case atStart => exact ⟨rfl, rfl, rfl, rfl⟩
    case round =>
    obtain ⟨rfl, rfl, rfl, rfl⟩ := hrel
    go_wp2_with fail
    go_ret
    exact ⟨rfl, HB3.out⟩
  · have := hrt.1
    rw [hno.known] at this
    cases this

theorem walk (a0 : Int) (a1 : Int) (w0 : (Lit.int .i64 a0).wf = true) (w1 : (Lit.int .i64 a1).wf = true) (w : World) :
    Calls Try.prog 7 #[.int .i64 a0, .int .i64 a1] w fun e w' => e = .returned (.bool true) ∧ Below w.heap.size w w' := by
  have b0 := bounds_i64 w0
  have b1 := bounds_i64 w1
  exact names a0 a1 w (by omega) (by omega) (by omega) (by omega)

/-! ### THE ROW's STEP: WRITTEN OUT: LEAVE IT -/
set_option maxRecDepth 100000 in
theorem lifted (os : Os) (started : os.Started) (H : Type) (enc : TypeId × Value → H) :
    ReturnsInHanded {} Try.checked os 7 .any (Rows.askNamesSpec.pre6 enc Try.prog Try.f7 Rows.askNamesRow.domain false) (Rows.askNamesSpec.post enc Try.prog Try.f7 false true false false) := by
  refine returnsInHanded_of_change (C := Try.checked) own started (by kernel_rfl) Try.func7
    (ChangeSpec.witness6 (enc := enc) (C := Try.checked) false ⟨#[], #[.int .i64 0, .int .i64 0], []⟩ 8 (by kernel_rfl) (by kernel_rfl) (by kernel_rfl) (by kernel_rfl)) ?_
  intro W base args ds gs before hval0 hW hcnd _
  have hval : ∀ (j : Nat) t v, Try.f7.params[j]? = some t → args[j]? = some v → Value.okWide Try.prog W .any base t v := hval0
  have hW' := hW
  obtain ⟨p, q, hA0, hV, rfl, hfz, hnd⟩ := hW
  have hA : DataW.TrodAll enc Try.prog W 0 (fun _ => true) true Try.f7.params.toList args.toList ds p := hA0
  rw [Try.params7] at hA hval
  obtain ⟨v0, vs0, d0, ds0, p0, q0, hargs, rfl, rfl, h0, r0⟩ := trodAll_cons hA
  obtain ⟨v1, vs1, d1, ds1, p1, q1, rfl, rfl, rfl, h1, r1⟩ := trodAll_cons r0
  obtain ⟨rfl, rfl, rfl⟩ := trodAll_nil r1
  obtain rfl : args = #[v0, v1] := by cases args; simp_all
  obtain ⟨rfl, rfl⟩ := trodVars_none hV
  obtain ⟨a0, rfl, rfl, rfl, w0⟩ := open_int Try.underlying3 (hval 0 3 v0 rfl rfl) h0
  obtain ⟨a1, rfl, rfl, rfl, w1⟩ := open_int Try.underlying3 (hval 1 3 v1 rfl rfl) h1
  clear hA0 hval0
  simp only [List.append_nil] at hW'
  refine (walk a0 a1 w0 w1 W).mono fun e W' ⟨he, bel⟩ => ?_
  subst he
  exact ⟨_, rfl, _, _, _, [], _, [], hW', trodAll_mk1 (shut_bool Try.underlying4 _), (trodAll_cons_mk (shut_int Try.underlying3 w0) (trodAll_cons_mk (shut_int Try.underlying3 w1) trodAll_mk0)), rfl, bel.frame _, fun h => by cases h⟩

theorem over : Rows.askNamesRow.holds Try.pinned (OpenSpec.ofChange Rows.askNamesSpec) :=
  OpenClaim.holds_of_wide 7 Try.f7 rfl rfl rfl rfl rfl rfl rfl ⟨rfl, rfl, rfl, rfl, rfl⟩ rfl rfl rfl rfl rfl (by kernel_rfl) Try.func7 (by kernel_rfl)
    (of_decide_eq_true (by kernel_rfl)) (by unfold Func.isWrapper; first | (rw [if_pos (by decide +kernel)]; kernel_rfl) | (rw [if_neg (by decide +kernel)]; exact ⟨rfl, rfl⟩))
    (fun os started H enc _ => lifted os started H enc)

/-- ████ THE STATEMENT ████ -/
theorem proved : Rows.AskNamesSaid :=
  over
#print axioms proved
end Go.Proofs.Ytebpilfogdenjaa.askNames

/- Joined: RTBytes RTBytes2 RTBytes3. -/
import Derived.Test.YtcmnhpogepahgaaJTellTells8
import Derived.Test.YtcmnhpogepahgaaPBox14
import Derived.Test.YtcmnhpogepahgaaJTellTells7
import Derived.Test.YtcmnhpogepahgaaJTellTells4
import Derived.Test.YtcmnhpogepahgaaAskWords
import Derived.Test.YtcmnhpogepahgaaRefBits
import Derived.OwnWalk
import Derived.Lib.AppendStr
import Derived.Deep.RegionLaw
namespace Go.Proofs.Ytcmnhpogepahgaa
open Go.ChangeShapes Go.WideShapes Go.ChangeAt Go.RowKit
set_option linter.unusedVariables false
set_option linter.unusedSimpArgs false

set_option maxRecDepth 100000 in
set_option maxHeartbeats 2000000 in
theorem rtb_5 (at_ n v an orr : Int) (BA WA OA : Option Addr) (bc wc oc : Nat) (w : World) (hw : WideT at_ n v an orr 0 0 0) (h : tellP 5 0 0 0 at_ n v an orr 0 0 0 0 0 1) :
    Calls Try.prog 16 #[.agg #[.int .i64 5, .int .i64 0, .slice BA 0 bc, .slice WA 0 wc, .int .i64 at_, .int .i64 n, .int .u16 v, .int .u16 an, .int .u16 orr, .int .i64 0, .int .i64 0, .bool false, .int .i64 0, .slice OA 0 oc]] w fun e w' => ∃ C cap, e = .returned (.tuple #[.slice C 5 cap, .int .i64 0]) ∧ Row .u8 w' w'.heap.size C 5 [5, at_ / 256, at_ % 256, (v * 65280) / 256, (v * 65280) % 256] ∧ Below w.heap.size w w' := by
  have hq := tell_nought.1 h
  obtain ⟨_, ⟨a0, a1⟩, hra, hre⟩ := hq
  unfold rangT at hra
  unfold restT at hre
  have hm2 : kMostW 15 = 1968 := rfl
  have hm3 : kMostW 16 = 123 := rfl
  have v0 := hw.v0
  have v1 := hw.v1
  have d0 := hw.d0
  have d1 := hw.d1
  have o0 := hw.o0
  have o1 := hw.o1
  have z00 : 0 ≤ at_ := by omega
  have z01 : at_ ≤ 65535 := by omega
  have w10 : IntKind.i64.wrap v = v := IntWalk.i64_in _ (by omega)
  have w11 : IntKind.i64.wrap (v * 65280) = v * 65280 := IntWalk.i64_in _ (by omega)
  have z10 : 0 ≤ v * 65280 := by omega
  have z11 : v * 65280 ≤ 65535 := by omega
  have CB := Lib.hid (fun W => rtells_any 5 0 0 0 at_ n v an orr 0 0 false 0 0 BA WA OA bc wc oc true W [] v0 OL.nil (by omega) (fun o ho => by cases ho) (by decide))
  rw [decide_eq_true (show tellP 5 0 0 0 at_ n v an orr 0 0 false.toNat 0 0 true.toNat from h)] at CB
  clear hra hre hm2 hm3 hw h
  go_enter Try.func16, Try.ntmps16
  go_wp2_with (
       go_at_call 18
       refine (CB.out _).mono ?_
       rintro e w4 ⟨rfl, hb4⟩
       have HB4 : Hid (Below w.heap.size w w4) := ((Below.refl _ _).alloc (Nat.le_refl _) _).trans (hb4.mono (by simp))
       have hk4 : Below (w.heap.size + 1) (w.alloc (.cells #[.int .i64 5, .int .i64 0, .slice BA 0 bc, .slice WA 0 wc, .int .i64 at_, .int .i64 n, .int .u16 v, .int .u16 an, .int .u16 orr, .int .i64 0, .int .i64 0, .bool false, .int .i64 0, .slice OA 0 oc] 27)) w4 := by
         rwa [show (w.alloc (.cells #[.int .i64 5, .int .i64 0, .slice BA 0 bc, .slice WA 0 wc, .int .i64 at_, .int .i64 n, .int .u16 v, .int .u16 an, .int .u16 orr, .int .i64 0, .int .i64 0, .bool false, .int .i64 0, .slice OA 0 oc] 27)).heap.size = w.heap.size + 1 by simp] at hb4
       have hbx := box14 _ _ _ _ _ _ _ _ _ _ _ _ _ _ _ w w4 hk4
       have hz4 : w.heap.size < w4.heap.size := hbx.lt
       have HX4 := Lib.hid hbx
       obtain ⟨hc0, hc1, hc2, hc3, hc4, hc5, hc6, hc7, hc8, hc9, hc10, hc11, hc12, hc13⟩ := cells14 hbx
       have hd0 : (w4.alloc (.cells #[.int .u8 5] 5)).cell? ⟨w.heap.size, 0, none⟩ = some (.int .i64 5) := (World.cell?_alloc_lt w4 _ ⟨w.heap.size, 0, none⟩ hz4).trans hc0
       clear hb4 hk4 hbx hc2 hc3 hc4 hc5 hc6 hc7 hc8 hc9 hc10 hc11 hc12 hc13)
  obtain ⟨w5, hw5⟩ : ∃ w5, w4.alloc (.cells #[.int .u8 5] 5) = w5 := ⟨_, rfl⟩
  have hb5 : Below w4.heap.size w4 w5 := by rw [← hw5]; exact (Below.refl _ _).alloc (Nat.le_refl _) _
  have HB5 : Hid (Below w.heap.size w w5) := HB4.out.trans (hb5.mono HB4.out.size)
  have HX5 := Lib.hid (HX4.out.below hb5 hz4)
  have HO5 : Hid (RowV w5 w5.heap.size (some ⟨w4.heap.size, 0, none⟩) 1 [.int .u8 5]) := by rw [← hw5]; exact built_row w4 _ [.int .u8 5] _ (Below.refl _ _)
  have KS : Hid (∀ W, Below w5.heap.size w5 W → W.cell? ⟨w.heap.size, 4, none⟩ = some (.int .i64 at_) ∧ W.cell? ⟨w.heap.size, 6, none⟩ = some (.int .u16 v) ∧ Below w5.heap.size w5 W) := by
    intro W hb
    have hx := HX5.out.below hb HX5.out.lt
    exact ⟨hx.cell 4, hx.cell 6, hb⟩
  have KB : Hid (∀ W, (W.cell? ⟨w.heap.size, 4, none⟩ = some (.int .i64 at_) ∧ W.cell? ⟨w.heap.size, 6, none⟩ = some (.int .u16 v) ∧ Below w5.heap.size w5 W) → Below w5.heap.size w5 W) := fun W hs => hs.2.2
  have KT : Hid (∀ W W', (W.cell? ⟨w.heap.size, 4, none⟩ = some (.int .i64 at_) ∧ W.cell? ⟨w.heap.size, 6, none⟩ = some (.int .u16 v) ∧ Below w5.heap.size w5 W) → Below W.heap.size W W' → W'.cell? ⟨w.heap.size, 4, none⟩ = some (.int .i64 at_) ∧ W'.cell? ⟨w.heap.size, 6, none⟩ = some (.int .u16 v) ∧ Below w5.heap.size w5 W') := fun W W' hs hb => KS.out _ ((KB.out _ hs).trans (hb.mono (KB.out _ hs).size))
  rw [hw5]
  clear hw5 hb5
  go_region_held3 (fun W => W.cell? ⟨w.heap.size, 4, none⟩ = some (.int .i64 at_) ∧ W.cell? ⟨w.heap.size, 6, none⟩ = some (.int .u16 v) ∧ Below w5.heap.size w5 W)
    (first
      | exact KS.out _ (Below.refl _ _).drew
      | exact KT.out _ _ (by assumption) hb7
      | exact KT.out _ _ (by assumption) hb6
      | exact KT.out _ _ (by assumption) ((Below.refl _ _).alloc (Nat.le_refl _) _))
    (first
      | (go_at_call 55
         (with_reducible refine (two_on (some ⟨w4.heap.size, 0, none⟩) 1 1 _ [5] at_ _ 3 [5, at_ / 256, at_ % 256] rfl rfl rfl ?_ z00 z01 (by omega)).mono ?_)
         · first | exact HO5.out | exact (HO5.out.below (KB.out _ (by assumption))).more (KB.out _ (by assumption)).size
         have hz6 := (KB.out _ (by assumption)).size
         rintro e w6 ⟨g6, c6, rfl, ho6, hb6⟩)
      | (go_at_call 55
         (with_reducible refine (two_on (some ⟨g6, 0, none⟩) 3 c6 _ [5, at_ / 256, at_ % 256] (v * 65280) _ 5 [5, at_ / 256, at_ % 256, (v * 65280) / 256, (v * 65280) % 256] rfl rfl rfl ?_ z10 z11 (by omega)).mono ?_)
         · first | exact own_row ho6 | exact own_row (ho6.alloc _)
         have hz7 := (KB.out _ (by assumption)).size
         rintro e w7 ⟨g7, c7, rfl, ho7, hb7⟩))
  all_goals
    go_wp2
    go_ret2
    exact ⟨_, _, rfl, (own_row ho7).ints, HB5.out.trans ((KB.out _ (by assumption)).mono HB5.out.size)⟩

set_option maxRecDepth 100000 in
set_option maxHeartbeats 2000000 in
theorem rtb_6 (at_ n v an orr : Int) (BA WA OA : Option Addr) (bc wc oc : Nat) (w : World) (hw : WideT at_ n v an orr 0 0 0) (h : tellP 6 0 0 0 at_ n v an orr 0 0 0 0 0 1) :
    Calls Try.prog 16 #[.agg #[.int .i64 6, .int .i64 0, .slice BA 0 bc, .slice WA 0 wc, .int .i64 at_, .int .i64 n, .int .u16 v, .int .u16 an, .int .u16 orr, .int .i64 0, .int .i64 0, .bool false, .int .i64 0, .slice OA 0 oc]] w fun e w' => ∃ C cap, e = .returned (.tuple #[.slice C 5 cap, .int .i64 0]) ∧ Row .u8 w' w'.heap.size C 5 [6, at_ / 256, at_ % 256, v / 256, v % 256] ∧ Below w.heap.size w w' := by
  have hq := tell_nought.1 h
  obtain ⟨_, ⟨a0, a1⟩, hra, hre⟩ := hq
  unfold rangT at hra
  unfold restT at hre
  have hm2 : kMostW 15 = 1968 := rfl
  have hm3 : kMostW 16 = 123 := rfl
  have v0 := hw.v0
  have v1 := hw.v1
  have d0 := hw.d0
  have d1 := hw.d1
  have o0 := hw.o0
  have o1 := hw.o1
  have z00 : 0 ≤ at_ := by omega
  have z01 : at_ ≤ 65535 := by omega
  have w10 : IntKind.i64.wrap v = v := IntWalk.i64_in _ (by omega)
  have z10 : 0 ≤ v := by omega
  have z11 : v ≤ 65535 := by omega
  have CB := Lib.hid (fun W => rtells_any 6 0 0 0 at_ n v an orr 0 0 false 0 0 BA WA OA bc wc oc true W [] v0 OL.nil (by omega) (fun o ho => by cases ho) (by decide))
  rw [decide_eq_true (show tellP 6 0 0 0 at_ n v an orr 0 0 false.toNat 0 0 true.toNat from h)] at CB
  clear hra hre hm2 hm3 hw h
  go_enter Try.func16, Try.ntmps16
  go_wp2_with (
       go_at_call 18
       refine (CB.out _).mono ?_
       rintro e w4 ⟨rfl, hb4⟩
       have HB4 : Hid (Below w.heap.size w w4) := ((Below.refl _ _).alloc (Nat.le_refl _) _).trans (hb4.mono (by simp))
       have hk4 : Below (w.heap.size + 1) (w.alloc (.cells #[.int .i64 6, .int .i64 0, .slice BA 0 bc, .slice WA 0 wc, .int .i64 at_, .int .i64 n, .int .u16 v, .int .u16 an, .int .u16 orr, .int .i64 0, .int .i64 0, .bool false, .int .i64 0, .slice OA 0 oc] 27)) w4 := by
         rwa [show (w.alloc (.cells #[.int .i64 6, .int .i64 0, .slice BA 0 bc, .slice WA 0 wc, .int .i64 at_, .int .i64 n, .int .u16 v, .int .u16 an, .int .u16 orr, .int .i64 0, .int .i64 0, .bool false, .int .i64 0, .slice OA 0 oc] 27)).heap.size = w.heap.size + 1 by simp] at hb4
       have hbx := box14 _ _ _ _ _ _ _ _ _ _ _ _ _ _ _ w w4 hk4
       have hz4 : w.heap.size < w4.heap.size := hbx.lt
       have HX4 := Lib.hid hbx
       obtain ⟨hc0, hc1, hc2, hc3, hc4, hc5, hc6, hc7, hc8, hc9, hc10, hc11, hc12, hc13⟩ := cells14 hbx
       have hd0 : (w4.alloc (.cells #[.int .u8 6] 5)).cell? ⟨w.heap.size, 0, none⟩ = some (.int .i64 6) := (World.cell?_alloc_lt w4 _ ⟨w.heap.size, 0, none⟩ hz4).trans hc0
       clear hb4 hk4 hbx hc2 hc3 hc4 hc5 hc6 hc7 hc8 hc9 hc10 hc11 hc12 hc13)
  obtain ⟨w5, hw5⟩ : ∃ w5, w4.alloc (.cells #[.int .u8 6] 5) = w5 := ⟨_, rfl⟩
  have hb5 : Below w4.heap.size w4 w5 := by rw [← hw5]; exact (Below.refl _ _).alloc (Nat.le_refl _) _
  have HB5 : Hid (Below w.heap.size w w5) := HB4.out.trans (hb5.mono HB4.out.size)
  have HX5 := Lib.hid (HX4.out.below hb5 hz4)
  have HO5 : Hid (RowV w5 w5.heap.size (some ⟨w4.heap.size, 0, none⟩) 1 [.int .u8 6]) := by rw [← hw5]; exact built_row w4 _ [.int .u8 6] _ (Below.refl _ _)
  have KS : Hid (∀ W, Below w5.heap.size w5 W → W.cell? ⟨w.heap.size, 4, none⟩ = some (.int .i64 at_) ∧ W.cell? ⟨w.heap.size, 6, none⟩ = some (.int .u16 v) ∧ Below w5.heap.size w5 W) := by
    intro W hb
    have hx := HX5.out.below hb HX5.out.lt
    exact ⟨hx.cell 4, hx.cell 6, hb⟩
  have KB : Hid (∀ W, (W.cell? ⟨w.heap.size, 4, none⟩ = some (.int .i64 at_) ∧ W.cell? ⟨w.heap.size, 6, none⟩ = some (.int .u16 v) ∧ Below w5.heap.size w5 W) → Below w5.heap.size w5 W) := fun W hs => hs.2.2
  have KT : Hid (∀ W W', (W.cell? ⟨w.heap.size, 4, none⟩ = some (.int .i64 at_) ∧ W.cell? ⟨w.heap.size, 6, none⟩ = some (.int .u16 v) ∧ Below w5.heap.size w5 W) → Below W.heap.size W W' → W'.cell? ⟨w.heap.size, 4, none⟩ = some (.int .i64 at_) ∧ W'.cell? ⟨w.heap.size, 6, none⟩ = some (.int .u16 v) ∧ Below w5.heap.size w5 W') := fun W W' hs hb => KS.out _ ((KB.out _ hs).trans (hb.mono (KB.out _ hs).size))
  rw [hw5]
  clear hw5 hb5
  go_region_held3 (fun W => W.cell? ⟨w.heap.size, 4, none⟩ = some (.int .i64 at_) ∧ W.cell? ⟨w.heap.size, 6, none⟩ = some (.int .u16 v) ∧ Below w5.heap.size w5 W)
    (first
      | exact KS.out _ (Below.refl _ _).drew
      | exact KT.out _ _ (by assumption) hb7
      | exact KT.out _ _ (by assumption) hb6
      | exact KT.out _ _ (by assumption) ((Below.refl _ _).alloc (Nat.le_refl _) _))
    (first
      | (go_at_call 55
         (with_reducible refine (two_on (some ⟨w4.heap.size, 0, none⟩) 1 1 _ [6] at_ _ 3 [6, at_ / 256, at_ % 256] rfl rfl rfl ?_ z00 z01 (by omega)).mono ?_)
         · first | exact HO5.out | exact (HO5.out.below (KB.out _ (by assumption))).more (KB.out _ (by assumption)).size
         have hz6 := (KB.out _ (by assumption)).size
         rintro e w6 ⟨g6, c6, rfl, ho6, hb6⟩)
      | (go_at_call 55
         (with_reducible refine (two_on (some ⟨g6, 0, none⟩) 3 c6 _ [6, at_ / 256, at_ % 256] v _ 5 [6, at_ / 256, at_ % 256, v / 256, v % 256] rfl rfl rfl ?_ z10 z11 (by omega)).mono ?_)
         · first | exact own_row ho6 | exact own_row (ho6.alloc _)
         have hz7 := (KB.out _ (by assumption)).size
         rintro e w7 ⟨g7, c7, rfl, ho7, hb7⟩))
  all_goals
    go_wp2
    go_ret2
    exact ⟨_, _, rfl, (own_row ho7).ints, HB5.out.trans ((KB.out _ (by assumption)).mono HB5.out.size)⟩

set_option maxRecDepth 100000 in
set_option maxHeartbeats 2000000 in
theorem rtb_15 (at_ n v an orr : Int) (BA WA OA : Option Addr) (bc wc oc : Nat) (w : World) (hw : WideT at_ n v an orr 0 0 0) (h : tellP 15 0 0 0 at_ n v an orr 0 0 0 0 0 1) :
    Calls Try.prog 16 #[.agg #[.int .i64 15, .int .i64 0, .slice BA 0 bc, .slice WA 0 wc, .int .i64 at_, .int .i64 n, .int .u16 v, .int .u16 an, .int .u16 orr, .int .i64 0, .int .i64 0, .bool false, .int .i64 0, .slice OA 0 oc]] w fun e w' => ∃ C cap, e = .returned (.tuple #[.slice C 5 cap, .int .i64 0]) ∧ Row .u8 w' w'.heap.size C 5 [15, at_ / 256, at_ % 256, n / 256, n % 256] ∧ Below w.heap.size w w' := by
  have hq := tell_nought.1 h
  obtain ⟨_, ⟨a0, a1⟩, hra, hre⟩ := hq
  unfold rangT at hra
  unfold restT at hre
  have hm2 : kMostW 15 = 1968 := rfl
  have hm3 : kMostW 16 = 123 := rfl
  have v0 := hw.v0
  have v1 := hw.v1
  have d0 := hw.d0
  have d1 := hw.d1
  have o0 := hw.o0
  have o1 := hw.o1
  have z00 : 0 ≤ at_ := by omega
  have z01 : at_ ≤ 65535 := by omega
  have z10 : 0 ≤ n := by omega
  have z11 : n ≤ 65535 := by omega
  have CB := Lib.hid (fun W => rtells_any 15 0 0 0 at_ n v an orr 0 0 false 0 0 BA WA OA bc wc oc true W [] v0 OL.nil (by omega) (fun o ho => by cases ho) (by decide))
  rw [decide_eq_true (show tellP 15 0 0 0 at_ n v an orr 0 0 false.toNat 0 0 true.toNat from h)] at CB
  clear hra hre hm2 hm3 hw h
  go_enter Try.func16, Try.ntmps16
  go_wp2_with (
       go_at_call 18
       refine (CB.out _).mono ?_
       rintro e w4 ⟨rfl, hb4⟩
       have HB4 : Hid (Below w.heap.size w w4) := ((Below.refl _ _).alloc (Nat.le_refl _) _).trans (hb4.mono (by simp))
       have hk4 : Below (w.heap.size + 1) (w.alloc (.cells #[.int .i64 15, .int .i64 0, .slice BA 0 bc, .slice WA 0 wc, .int .i64 at_, .int .i64 n, .int .u16 v, .int .u16 an, .int .u16 orr, .int .i64 0, .int .i64 0, .bool false, .int .i64 0, .slice OA 0 oc] 27)) w4 := by
         rwa [show (w.alloc (.cells #[.int .i64 15, .int .i64 0, .slice BA 0 bc, .slice WA 0 wc, .int .i64 at_, .int .i64 n, .int .u16 v, .int .u16 an, .int .u16 orr, .int .i64 0, .int .i64 0, .bool false, .int .i64 0, .slice OA 0 oc] 27)).heap.size = w.heap.size + 1 by simp] at hb4
       have hbx := box14 _ _ _ _ _ _ _ _ _ _ _ _ _ _ _ w w4 hk4
       have hz4 : w.heap.size < w4.heap.size := hbx.lt
       have HX4 := Lib.hid hbx
       obtain ⟨hc0, hc1, hc2, hc3, hc4, hc5, hc6, hc7, hc8, hc9, hc10, hc11, hc12, hc13⟩ := cells14 hbx
       have hd0 : (w4.alloc (.cells #[.int .u8 15] 5)).cell? ⟨w.heap.size, 0, none⟩ = some (.int .i64 15) := (World.cell?_alloc_lt w4 _ ⟨w.heap.size, 0, none⟩ hz4).trans hc0
       clear hb4 hk4 hbx hc2 hc3 hc4 hc5 hc6 hc7 hc8 hc9 hc10 hc11 hc12 hc13)
  obtain ⟨w5, hw5⟩ : ∃ w5, w4.alloc (.cells #[.int .u8 15] 5) = w5 := ⟨_, rfl⟩
  have hb5 : Below w4.heap.size w4 w5 := by rw [← hw5]; exact (Below.refl _ _).alloc (Nat.le_refl _) _
  have HB5 : Hid (Below w.heap.size w w5) := HB4.out.trans (hb5.mono HB4.out.size)
  have HX5 := Lib.hid (HX4.out.below hb5 hz4)
  have HO5 : Hid (RowV w5 w5.heap.size (some ⟨w4.heap.size, 0, none⟩) 1 [.int .u8 15]) := by rw [← hw5]; exact built_row w4 _ [.int .u8 15] _ (Below.refl _ _)
  have KS : Hid (∀ W, Below w5.heap.size w5 W → W.cell? ⟨w.heap.size, 4, none⟩ = some (.int .i64 at_) ∧ W.cell? ⟨w.heap.size, 5, none⟩ = some (.int .i64 n) ∧ Below w5.heap.size w5 W) := by
    intro W hb
    have hx := HX5.out.below hb HX5.out.lt
    exact ⟨hx.cell 4, hx.cell 5, hb⟩
  have KB : Hid (∀ W, (W.cell? ⟨w.heap.size, 4, none⟩ = some (.int .i64 at_) ∧ W.cell? ⟨w.heap.size, 5, none⟩ = some (.int .i64 n) ∧ Below w5.heap.size w5 W) → Below w5.heap.size w5 W) := fun W hs => hs.2.2
  have KT : Hid (∀ W W', (W.cell? ⟨w.heap.size, 4, none⟩ = some (.int .i64 at_) ∧ W.cell? ⟨w.heap.size, 5, none⟩ = some (.int .i64 n) ∧ Below w5.heap.size w5 W) → Below W.heap.size W W' → W'.cell? ⟨w.heap.size, 4, none⟩ = some (.int .i64 at_) ∧ W'.cell? ⟨w.heap.size, 5, none⟩ = some (.int .i64 n) ∧ Below w5.heap.size w5 W') := fun W W' hs hb => KS.out _ ((KB.out _ hs).trans (hb.mono (KB.out _ hs).size))
  rw [hw5]
  clear hw5 hb5
  go_region_held3 (fun W => W.cell? ⟨w.heap.size, 4, none⟩ = some (.int .i64 at_) ∧ W.cell? ⟨w.heap.size, 5, none⟩ = some (.int .i64 n) ∧ Below w5.heap.size w5 W)
    (first
      | exact KS.out _ (Below.refl _ _).drew
      | exact KT.out _ _ (by assumption) hb7
      | exact KT.out _ _ (by assumption) hb6
      | exact KT.out _ _ (by assumption) ((Below.refl _ _).alloc (Nat.le_refl _) _))
    (first
      | (go_at_call 55
         (with_reducible refine (two_on (some ⟨w4.heap.size, 0, none⟩) 1 1 _ [15] at_ _ 3 [15, at_ / 256, at_ % 256] rfl rfl rfl ?_ z00 z01 (by omega)).mono ?_)
         · first | exact HO5.out | exact (HO5.out.below (KB.out _ (by assumption))).more (KB.out _ (by assumption)).size
         have hz6 := (KB.out _ (by assumption)).size
         rintro e w6 ⟨g6, c6, rfl, ho6, hb6⟩)
      | (go_at_call 55
         (with_reducible refine (two_on (some ⟨g6, 0, none⟩) 3 c6 _ [15, at_ / 256, at_ % 256] n _ 5 [15, at_ / 256, at_ % 256, n / 256, n % 256] rfl rfl rfl ?_ z10 z11 (by omega)).mono ?_)
         · first | exact own_row ho6 | exact own_row (ho6.alloc _)
         have hz7 := (KB.out _ (by assumption)).size
         rintro e w7 ⟨g7, c7, rfl, ho7, hb7⟩))
  all_goals
    go_wp2
    go_ret2
    exact ⟨_, _, rfl, (own_row ho7).ints, HB5.out.trans ((KB.out _ (by assumption)).mono HB5.out.size)⟩

set_option maxRecDepth 100000 in
set_option maxHeartbeats 2000000 in
theorem rtb_16 (at_ n v an orr : Int) (BA WA OA : Option Addr) (bc wc oc : Nat) (w : World) (hw : WideT at_ n v an orr 0 0 0) (h : tellP 16 0 0 0 at_ n v an orr 0 0 0 0 0 1) :
    Calls Try.prog 16 #[.agg #[.int .i64 16, .int .i64 0, .slice BA 0 bc, .slice WA 0 wc, .int .i64 at_, .int .i64 n, .int .u16 v, .int .u16 an, .int .u16 orr, .int .i64 0, .int .i64 0, .bool false, .int .i64 0, .slice OA 0 oc]] w fun e w' => ∃ C cap, e = .returned (.tuple #[.slice C 5 cap, .int .i64 0]) ∧ Row .u8 w' w'.heap.size C 5 [16, at_ / 256, at_ % 256, n / 256, n % 256] ∧ Below w.heap.size w w' := by
  have hq := tell_nought.1 h
  obtain ⟨_, ⟨a0, a1⟩, hra, hre⟩ := hq
  unfold rangT at hra
  unfold restT at hre
  have hm2 : kMostW 15 = 1968 := rfl
  have hm3 : kMostW 16 = 123 := rfl
  have v0 := hw.v0
  have v1 := hw.v1
  have d0 := hw.d0
  have d1 := hw.d1
  have o0 := hw.o0
  have o1 := hw.o1
  have z00 : 0 ≤ at_ := by omega
  have z01 : at_ ≤ 65535 := by omega
  have z10 : 0 ≤ n := by omega
  have z11 : n ≤ 65535 := by omega
  have CB := Lib.hid (fun W => rtells_any 16 0 0 0 at_ n v an orr 0 0 false 0 0 BA WA OA bc wc oc true W [] v0 OL.nil (by omega) (fun o ho => by cases ho) (by decide))
  rw [decide_eq_true (show tellP 16 0 0 0 at_ n v an orr 0 0 false.toNat 0 0 true.toNat from h)] at CB
  clear hra hre hm2 hm3 hw h
  go_enter Try.func16, Try.ntmps16
  go_wp2_with (
       go_at_call 18
       refine (CB.out _).mono ?_
       rintro e w4 ⟨rfl, hb4⟩
       have HB4 : Hid (Below w.heap.size w w4) := ((Below.refl _ _).alloc (Nat.le_refl _) _).trans (hb4.mono (by simp))
       have hk4 : Below (w.heap.size + 1) (w.alloc (.cells #[.int .i64 16, .int .i64 0, .slice BA 0 bc, .slice WA 0 wc, .int .i64 at_, .int .i64 n, .int .u16 v, .int .u16 an, .int .u16 orr, .int .i64 0, .int .i64 0, .bool false, .int .i64 0, .slice OA 0 oc] 27)) w4 := by
         rwa [show (w.alloc (.cells #[.int .i64 16, .int .i64 0, .slice BA 0 bc, .slice WA 0 wc, .int .i64 at_, .int .i64 n, .int .u16 v, .int .u16 an, .int .u16 orr, .int .i64 0, .int .i64 0, .bool false, .int .i64 0, .slice OA 0 oc] 27)).heap.size = w.heap.size + 1 by simp] at hb4
       have hbx := box14 _ _ _ _ _ _ _ _ _ _ _ _ _ _ _ w w4 hk4
       have hz4 : w.heap.size < w4.heap.size := hbx.lt
       have HX4 := Lib.hid hbx
       obtain ⟨hc0, hc1, hc2, hc3, hc4, hc5, hc6, hc7, hc8, hc9, hc10, hc11, hc12, hc13⟩ := cells14 hbx
       have hd0 : (w4.alloc (.cells #[.int .u8 16] 5)).cell? ⟨w.heap.size, 0, none⟩ = some (.int .i64 16) := (World.cell?_alloc_lt w4 _ ⟨w.heap.size, 0, none⟩ hz4).trans hc0
       clear hb4 hk4 hbx hc2 hc3 hc4 hc5 hc6 hc7 hc8 hc9 hc10 hc11 hc12 hc13)
  obtain ⟨w5, hw5⟩ : ∃ w5, w4.alloc (.cells #[.int .u8 16] 5) = w5 := ⟨_, rfl⟩
  have hb5 : Below w4.heap.size w4 w5 := by rw [← hw5]; exact (Below.refl _ _).alloc (Nat.le_refl _) _
  have HB5 : Hid (Below w.heap.size w w5) := HB4.out.trans (hb5.mono HB4.out.size)
  have HX5 := Lib.hid (HX4.out.below hb5 hz4)
  have HO5 : Hid (RowV w5 w5.heap.size (some ⟨w4.heap.size, 0, none⟩) 1 [.int .u8 16]) := by rw [← hw5]; exact built_row w4 _ [.int .u8 16] _ (Below.refl _ _)
  have KS : Hid (∀ W, Below w5.heap.size w5 W → W.cell? ⟨w.heap.size, 4, none⟩ = some (.int .i64 at_) ∧ W.cell? ⟨w.heap.size, 5, none⟩ = some (.int .i64 n) ∧ Below w5.heap.size w5 W) := by
    intro W hb
    have hx := HX5.out.below hb HX5.out.lt
    exact ⟨hx.cell 4, hx.cell 5, hb⟩
  have KB : Hid (∀ W, (W.cell? ⟨w.heap.size, 4, none⟩ = some (.int .i64 at_) ∧ W.cell? ⟨w.heap.size, 5, none⟩ = some (.int .i64 n) ∧ Below w5.heap.size w5 W) → Below w5.heap.size w5 W) := fun W hs => hs.2.2
  have KT : Hid (∀ W W', (W.cell? ⟨w.heap.size, 4, none⟩ = some (.int .i64 at_) ∧ W.cell? ⟨w.heap.size, 5, none⟩ = some (.int .i64 n) ∧ Below w5.heap.size w5 W) → Below W.heap.size W W' → W'.cell? ⟨w.heap.size, 4, none⟩ = some (.int .i64 at_) ∧ W'.cell? ⟨w.heap.size, 5, none⟩ = some (.int .i64 n) ∧ Below w5.heap.size w5 W') := fun W W' hs hb => KS.out _ ((KB.out _ hs).trans (hb.mono (KB.out _ hs).size))
  rw [hw5]
  clear hw5 hb5
  go_region_held3 (fun W => W.cell? ⟨w.heap.size, 4, none⟩ = some (.int .i64 at_) ∧ W.cell? ⟨w.heap.size, 5, none⟩ = some (.int .i64 n) ∧ Below w5.heap.size w5 W)
    (first
      | exact KS.out _ (Below.refl _ _).drew
      | exact KT.out _ _ (by assumption) hb7
      | exact KT.out _ _ (by assumption) hb6
      | exact KT.out _ _ (by assumption) ((Below.refl _ _).alloc (Nat.le_refl _) _))
    (first
      | (go_at_call 55
         (with_reducible refine (two_on (some ⟨w4.heap.size, 0, none⟩) 1 1 _ [16] at_ _ 3 [16, at_ / 256, at_ % 256] rfl rfl rfl ?_ z00 z01 (by omega)).mono ?_)
         · first | exact HO5.out | exact (HO5.out.below (KB.out _ (by assumption))).more (KB.out _ (by assumption)).size
         have hz6 := (KB.out _ (by assumption)).size
         rintro e w6 ⟨g6, c6, rfl, ho6, hb6⟩)
      | (go_at_call 55
         (with_reducible refine (two_on (some ⟨g6, 0, none⟩) 3 c6 _ [16, at_ / 256, at_ % 256] n _ 5 [16, at_ / 256, at_ % 256, n / 256, n % 256] rfl rfl rfl ?_ z10 z11 (by omega)).mono ?_)
         · first | exact own_row ho6 | exact own_row (ho6.alloc _)
         have hz7 := (KB.out _ (by assumption)).size
         rintro e w7 ⟨g7, c7, rfl, ho7, hb7⟩))
  all_goals
    go_wp2
    go_ret2
    exact ⟨_, _, rfl, (own_row ho7).ints, HB5.out.trans ((KB.out _ (by assumption)).mono HB5.out.size)⟩

set_option maxRecDepth 100000 in
set_option maxHeartbeats 2000000 in
theorem rtb_22 (at_ n v an orr : Int) (BA WA OA : Option Addr) (bc wc oc : Nat) (w : World) (hw : WideT at_ n v an orr 0 0 0) (h : tellP 22 0 0 0 at_ n v an orr 0 0 0 0 0 1) :
    Calls Try.prog 16 #[.agg #[.int .i64 22, .int .i64 0, .slice BA 0 bc, .slice WA 0 wc, .int .i64 at_, .int .i64 n, .int .u16 v, .int .u16 an, .int .u16 orr, .int .i64 0, .int .i64 0, .bool false, .int .i64 0, .slice OA 0 oc]] w fun e w' => ∃ C cap, e = .returned (.tuple #[.slice C 7 cap, .int .i64 0]) ∧ Row .u8 w' w'.heap.size C 7 [22, at_ / 256, at_ % 256, an / 256, an % 256, orr / 256, orr % 256] ∧ Below w.heap.size w w' := by
  have hq := tell_nought.1 h
  obtain ⟨_, ⟨a0, a1⟩, hra, hre⟩ := hq
  unfold rangT at hra
  unfold restT at hre
  have hm2 : kMostW 15 = 1968 := rfl
  have hm3 : kMostW 16 = 123 := rfl
  have v0 := hw.v0
  have v1 := hw.v1
  have d0 := hw.d0
  have d1 := hw.d1
  have o0 := hw.o0
  have o1 := hw.o1
  have z00 : 0 ≤ at_ := by omega
  have z01 : at_ ≤ 65535 := by omega
  have w10 : IntKind.i64.wrap an = an := IntWalk.i64_in _ (by omega)
  have z10 : 0 ≤ an := by omega
  have z11 : an ≤ 65535 := by omega
  have w20 : IntKind.i64.wrap orr = orr := IntWalk.i64_in _ (by omega)
  have z20 : 0 ≤ orr := by omega
  have z21 : orr ≤ 65535 := by omega
  have CB := Lib.hid (fun W => rtells_any 22 0 0 0 at_ n v an orr 0 0 false 0 0 BA WA OA bc wc oc true W [] v0 OL.nil (by omega) (fun o ho => by cases ho) (by decide))
  rw [decide_eq_true (show tellP 22 0 0 0 at_ n v an orr 0 0 false.toNat 0 0 true.toNat from h)] at CB
  clear hra hre hm2 hm3 hw h
  go_enter Try.func16, Try.ntmps16
  go_wp2_with (
       go_at_call 18
       refine (CB.out _).mono ?_
       rintro e w4 ⟨rfl, hb4⟩
       have HB4 : Hid (Below w.heap.size w w4) := ((Below.refl _ _).alloc (Nat.le_refl _) _).trans (hb4.mono (by simp))
       have hk4 : Below (w.heap.size + 1) (w.alloc (.cells #[.int .i64 22, .int .i64 0, .slice BA 0 bc, .slice WA 0 wc, .int .i64 at_, .int .i64 n, .int .u16 v, .int .u16 an, .int .u16 orr, .int .i64 0, .int .i64 0, .bool false, .int .i64 0, .slice OA 0 oc] 27)) w4 := by
         rwa [show (w.alloc (.cells #[.int .i64 22, .int .i64 0, .slice BA 0 bc, .slice WA 0 wc, .int .i64 at_, .int .i64 n, .int .u16 v, .int .u16 an, .int .u16 orr, .int .i64 0, .int .i64 0, .bool false, .int .i64 0, .slice OA 0 oc] 27)).heap.size = w.heap.size + 1 by simp] at hb4
       have hbx := box14 _ _ _ _ _ _ _ _ _ _ _ _ _ _ _ w w4 hk4
       have hz4 : w.heap.size < w4.heap.size := hbx.lt
       have HX4 := Lib.hid hbx
       obtain ⟨hc0, hc1, hc2, hc3, hc4, hc5, hc6, hc7, hc8, hc9, hc10, hc11, hc12, hc13⟩ := cells14 hbx
       have hd0 : (w4.alloc (.cells #[.int .u8 22] 5)).cell? ⟨w.heap.size, 0, none⟩ = some (.int .i64 22) := (World.cell?_alloc_lt w4 _ ⟨w.heap.size, 0, none⟩ hz4).trans hc0
       clear hb4 hk4 hbx hc2 hc3 hc4 hc5 hc6 hc7 hc8 hc9 hc10 hc11 hc12 hc13)
  obtain ⟨w5, hw5⟩ : ∃ w5, w4.alloc (.cells #[.int .u8 22] 5) = w5 := ⟨_, rfl⟩
  have hb5 : Below w4.heap.size w4 w5 := by rw [← hw5]; exact (Below.refl _ _).alloc (Nat.le_refl _) _
  have HB5 : Hid (Below w.heap.size w w5) := HB4.out.trans (hb5.mono HB4.out.size)
  have HX5 := Lib.hid (HX4.out.below hb5 hz4)
  have HO5 : Hid (RowV w5 w5.heap.size (some ⟨w4.heap.size, 0, none⟩) 1 [.int .u8 22]) := by rw [← hw5]; exact built_row w4 _ [.int .u8 22] _ (Below.refl _ _)
  have KS : Hid (∀ W, Below w5.heap.size w5 W → W.cell? ⟨w.heap.size, 4, none⟩ = some (.int .i64 at_) ∧ W.cell? ⟨w.heap.size, 7, none⟩ = some (.int .u16 an) ∧ W.cell? ⟨w.heap.size, 8, none⟩ = some (.int .u16 orr) ∧ Below w5.heap.size w5 W) := by
    intro W hb
    have hx := HX5.out.below hb HX5.out.lt
    exact ⟨hx.cell 4, hx.cell 7, hx.cell 8, hb⟩
  have KB : Hid (∀ W, (W.cell? ⟨w.heap.size, 4, none⟩ = some (.int .i64 at_) ∧ W.cell? ⟨w.heap.size, 7, none⟩ = some (.int .u16 an) ∧ W.cell? ⟨w.heap.size, 8, none⟩ = some (.int .u16 orr) ∧ Below w5.heap.size w5 W) → Below w5.heap.size w5 W) := fun W hs => hs.2.2.2
  have KT : Hid (∀ W W', (W.cell? ⟨w.heap.size, 4, none⟩ = some (.int .i64 at_) ∧ W.cell? ⟨w.heap.size, 7, none⟩ = some (.int .u16 an) ∧ W.cell? ⟨w.heap.size, 8, none⟩ = some (.int .u16 orr) ∧ Below w5.heap.size w5 W) → Below W.heap.size W W' → W'.cell? ⟨w.heap.size, 4, none⟩ = some (.int .i64 at_) ∧ W'.cell? ⟨w.heap.size, 7, none⟩ = some (.int .u16 an) ∧ W'.cell? ⟨w.heap.size, 8, none⟩ = some (.int .u16 orr) ∧ Below w5.heap.size w5 W') := fun W W' hs hb => KS.out _ ((KB.out _ hs).trans (hb.mono (KB.out _ hs).size))
  rw [hw5]
  clear hw5 hb5
  go_region_held3 (fun W => W.cell? ⟨w.heap.size, 4, none⟩ = some (.int .i64 at_) ∧ W.cell? ⟨w.heap.size, 7, none⟩ = some (.int .u16 an) ∧ W.cell? ⟨w.heap.size, 8, none⟩ = some (.int .u16 orr) ∧ Below w5.heap.size w5 W)
    (first
      | exact KS.out _ (Below.refl _ _).drew
      | exact KT.out _ _ (by assumption) hb8
      | exact KT.out _ _ (by assumption) hb7
      | exact KT.out _ _ (by assumption) hb6
      | exact KT.out _ _ (by assumption) ((Below.refl _ _).alloc (Nat.le_refl _) _))
    (first
      | (go_at_call 55
         (with_reducible refine (two_on (some ⟨w4.heap.size, 0, none⟩) 1 1 _ [22] at_ _ 3 [22, at_ / 256, at_ % 256] rfl rfl rfl ?_ z00 z01 (by omega)).mono ?_)
         · first | exact HO5.out | exact (HO5.out.below (KB.out _ (by assumption))).more (KB.out _ (by assumption)).size
         have hz6 := (KB.out _ (by assumption)).size
         rintro e w6 ⟨g6, c6, rfl, ho6, hb6⟩)
      | (go_at_call 55
         (with_reducible refine (two_on (some ⟨g6, 0, none⟩) 3 c6 _ [22, at_ / 256, at_ % 256] an _ 5 [22, at_ / 256, at_ % 256, an / 256, an % 256] rfl rfl rfl ?_ z10 z11 (by omega)).mono ?_)
         · first | exact own_row ho6 | exact own_row (ho6.alloc _)
         have hz7 := (KB.out _ (by assumption)).size
         rintro e w7 ⟨g7, c7, rfl, ho7, hb7⟩)
      | (go_at_call 55
         (with_reducible refine (two_on (some ⟨g7, 0, none⟩) 5 c7 _ [22, at_ / 256, at_ % 256, an / 256, an % 256] orr _ 7 [22, at_ / 256, at_ % 256, an / 256, an % 256, orr / 256, orr % 256] rfl rfl rfl ?_ z20 z21 (by omega)).mono ?_)
         · first | exact own_row ho7 | exact own_row (ho7.alloc _)
         have hz8 := (KB.out _ (by assumption)).size
         rintro e w8 ⟨g8, c8, rfl, ho8, hb8⟩))
  all_goals
    go_wp2
    go_ret2
    exact ⟨_, _, rfl, (own_row ho8).ints, HB5.out.trans ((KB.out _ (by assumption)).mono HB5.out.size)⟩

set_option maxRecDepth 100000 in
set_option maxHeartbeats 1000000 in
theorem rtb_no (fn ex : Int) (bl wl : Nat) (at_ n v an orr co le : Int) (mo : Bool) (nx : Int) (ol : Nat) (BA WA OA : Option Addr) (bc wc oc : Nat) (fo : Bool) (w : World) (os : List Ob) (v0 : 0 ≤ v) (hl : OL w w.heap.size OA ol os) (hol : ol ≤ 100000) (hz : ∀ o ∈ os, o.2.size ≤ 1000000) (hfo : decide (fitP os) = fo) (h : ¬ tellP fn ex bl wl at_ n v an orr co le mo.toNat nx ol fo.toNat) :
    Calls Try.prog 16 #[.agg #[.int .i64 fn, .int .i64 ex, .slice BA bl bc, .slice WA wl wc, .int .i64 at_, .int .i64 n, .int .u16 v, .int .u16 an, .int .u16 orr, .int .i64 co, .int .i64 le, .bool mo, .int .i64 nx, .slice OA ol oc]] w fun e w' => e = .returned (.tuple #[.slice none 0 0, .int .i64 1]) ∧ Below w.heap.size w w' := by
  have CB := Lib.hid (fun W (hW : Below w.heap.size w W) => rtells_any fn ex bl wl at_ n v an orr co le mo nx ol BA WA OA bc wc oc fo W os v0 (hl.below hW) hol hz hfo)
  rw [decide_eq_false h] at CB
  clear hl hz hfo h
  go_enter Try.func16, Try.ntmps16
  go_wp2_with (first
    | (go_at_call 18
       refine (CB.out _ ((Below.refl _ _).alloc (Nat.le_refl _) _)).mono ?_
       rintro e w4 ⟨rfl, hb4⟩
       have HB4 : Hid (Below w.heap.size w w4) := ((Below.refl _ _).alloc (Nat.le_refl _) _).trans (hb4.mono (by simp))
       have hk4 : Below (w.heap.size + 1) (w.alloc (.cells #[.int .i64 fn, .int .i64 ex, .slice BA bl bc, .slice WA wl wc, .int .i64 at_, .int .i64 n, .int .u16 v, .int .u16 an, .int .u16 orr, .int .i64 co, .int .i64 le, .bool mo, .int .i64 nx, .slice OA ol oc] 27)) w4 := by
         rwa [show (w.alloc (.cells #[.int .i64 fn, .int .i64 ex, .slice BA bl bc, .slice WA wl wc, .int .i64 at_, .int .i64 n, .int .u16 v, .int .u16 an, .int .u16 orr, .int .i64 co, .int .i64 le, .bool mo, .int .i64 nx, .slice OA ol oc] 27)).heap.size = w.heap.size + 1 by simp] at hb4
       have hbx := box14 _ _ _ _ _ _ _ _ _ _ _ _ _ _ _ w w4 hk4
       have hz4 : w.heap.size < w4.heap.size := hbx.lt
       have HX4 := Lib.hid hbx
       obtain ⟨hc0, hc1, hc2, hc3, hc4, hc5, hc6, hc7, hc8, hc9, hc10, hc11, hc12, hc13⟩ := cells14 hbx
       clear hb4 hk4 hbx))
  go_ret2
  exact ⟨rfl, HB4.out⟩

set_option maxRecDepth 100000 in
set_option maxHeartbeats 1000000 in
theorem rtb_exc (fn ex : Int) (bl wl : Nat) (at_ n v an orr co le : Int) (mo : Bool) (nx : Int) (ol : Nat) (BA WA OA : Option Addr) (bc wc oc : Nat) (fo : Bool) (w : World) (os : List Ob) (v0 : 0 ≤ v) (hl : OL w w.heap.size OA ol os) (hol : ol ≤ 100000) (hz : ∀ o ∈ os, o.2.size ≤ 1000000) (hfo : decide (fitP os) = fo) (hx : ex ≠ 0) (h : tellP fn ex bl wl at_ n v an orr co le mo.toNat nx ol fo.toNat) :
    Calls Try.prog 16 #[.agg #[.int .i64 fn, .int .i64 ex, .slice BA bl bc, .slice WA wl wc, .int .i64 at_, .int .i64 n, .int .u16 v, .int .u16 an, .int .u16 orr, .int .i64 co, .int .i64 le, .bool mo, .int .i64 nx, .slice OA ol oc]] w fun e w' => ∃ g, e = .returned (.tuple #[.slice (some ⟨g, 0, none⟩) 2 2, .int .i64 0]) ∧ Whole .u8 w' g 5 [fn % 128 + 128, ex] ∧ w.heap.size ≤ g ∧ Below w.heap.size w w' := by
  have hq := (tell_exc hx).1 h
  have f0 := hq.2.1.1
  have f1 := hq.2.1.2
  have x0 : 0 ≤ ex := by omega
  have x1 : ex ≤ 255 := by omega
  have hx2 : (ex != 0) = true := by simpa using hx
  have CB := Lib.hid (fun W (hW : Below w.heap.size w W) => rtells_any fn ex bl wl at_ n v an orr co le mo nx ol BA WA OA bc wc oc fo W os v0 (hl.below hW) hol hz hfo)
  rw [decide_eq_true h] at CB
  have ht : fn.tmod 128 = fn % 128 := Int.tmod_eq_emod_of_nonneg f0
  have b0 : 0 ≤ fn % 128 + 128 := by omega
  have b1 : fn % 128 + 128 ≤ 255 := by omega
  have ef : IntKind.u8.wrap (fn % 128 + 128) = fn % 128 + 128 := IntWalk.u8_in _ (by omega)
  have ee : IntKind.u8.wrap ex = ex := IntWalk.u8_in _ (by omega)
  clear hl hz hfo h hq
  go_enter Try.func16, Try.ntmps16
  go_wp2_with (first
    | (go_at_call 18
       refine (CB.out _ ((Below.refl _ _).alloc (Nat.le_refl _) _)).mono ?_
       rintro e w4 ⟨rfl, hb4⟩
       have HB4 : Hid (Below w.heap.size w w4) := ((Below.refl _ _).alloc (Nat.le_refl _) _).trans (hb4.mono (by simp))
       have hk4 : Below (w.heap.size + 1) (w.alloc (.cells #[.int .i64 fn, .int .i64 ex, .slice BA bl bc, .slice WA wl wc, .int .i64 at_, .int .i64 n, .int .u16 v, .int .u16 an, .int .u16 orr, .int .i64 co, .int .i64 le, .bool mo, .int .i64 nx, .slice OA ol oc] 27)) w4 := by
         rwa [show (w.alloc (.cells #[.int .i64 fn, .int .i64 ex, .slice BA bl bc, .slice WA wl wc, .int .i64 at_, .int .i64 n, .int .u16 v, .int .u16 an, .int .u16 orr, .int .i64 co, .int .i64 le, .bool mo, .int .i64 nx, .slice OA ol oc] 27)).heap.size = w.heap.size + 1 by simp] at hb4
       have hbx := box14 _ _ _ _ _ _ _ _ _ _ _ _ _ _ _ w w4 hk4
       have hz4 : w.heap.size < w4.heap.size := hbx.lt
       have HX4 := Lib.hid hbx
       obtain ⟨hc0, hc1, hc2, hc3, hc4, hc5, hc6, hc7, hc8, hc9, hc10, hc11, hc12, hc13⟩ := cells14 hbx
       clear hb4 hk4 hbx))
  go_ret2
  exact ⟨w4.heap.size, rfl, heap_alloc_new w4 _, HB4.out.size, HB4.out.alloc HB4.out.size _⟩

set_option maxRecDepth 100000 in
set_option maxHeartbeats 2000000 in
theorem rtb_1 (bl : Nat) (bs : List Bool) (BA WA OA : Option Addr) (bc wc oc : Nat) (w : World) (hl : 1 ≤ bl ∧ bl ≤ 2000) (hr : BRow w w.heap.size BA bl bs) :
    Calls Try.prog 16 #[.agg #[.int .i64 1, .int .i64 0, .slice BA bl bc, .slice WA 0 wc, .int .i64 0, .int .i64 0, .int .u16 0, .int .u16 0, .int .u16 0, .int .i64 0, .int .i64 0, .bool false, .int .i64 0, .slice OA 0 oc]] w fun e w' => ∃ m C cc, e = .returned (.tuple #[.slice C m cc, .int .i64 0]) ∧ m = 2 + (nb bl) ∧ Row .u8 w' w'.heap.size C m ([1, ((nb bl : Nat) : Int)] ++ pk bs bl) ∧ Below w.heap.size w w' := by
  have hq1 : nb bl ≤ 250 := by unfold nb; omega
  have CB := Lib.hid (fun W (hW : Below w.heap.size w W) => rtells_any 1 0 bl 0 0 0 0 0 0 0 0 false 0 0 BA WA OA bc wc oc true W [] (by omega) OL.nil (by omega) (fun o ho => by cases ho) (by decide))
  rw [decide_eq_true (show tellP 1 0 bl 0 0 0 0 0 0 0 0 false.toNat 0 0 true.toNat by
    refine tell_nought.2 ⟨rfl, by omega, ?_, ?_⟩
    · have h1 : true.toNat = 1 := rfl
      unfold rangT
      omega
    · unfold restT
      have h1 : false.toNat = 0 := rfl
      omega)] at CB
  have HR := Lib.hid (fun W (hb : Below w.heap.size w W) => (hr.below hb).more hb.size)
  have HN := Lib.hid hr.1
  have hwq : IntKind.u8.wrap ((nb bl : Nat) : Int) = ((nb bl : Nat) : Int) := IntWalk.u8_in _ (by omega)
  clear hr
  go_enter Try.func16, Try.ntmps16
  go_wp2_with (first
    | (go_at_call 18
       refine (CB.out _ ((Below.refl _ _).alloc (Nat.le_refl _) _)).mono ?_
       rintro e w4 ⟨rfl, hb4⟩
       have HB4 : Hid (Below w.heap.size w w4) := ((Below.refl _ _).alloc (Nat.le_refl _) _).trans (hb4.mono (by simp))
       have hk4 : Below (w.heap.size + 1) (w.alloc (.cells #[.int .i64 1, .int .i64 0, .slice BA bl bc, .slice WA 0 wc, .int .i64 0, .int .i64 0, .int .u16 0, .int .u16 0, .int .u16 0, .int .i64 0, .int .i64 0, .bool false, .int .i64 0, .slice OA 0 oc] 27)) w4 := by
         rwa [show (w.alloc (.cells #[.int .i64 1, .int .i64 0, .slice BA bl bc, .slice WA 0 wc, .int .i64 0, .int .i64 0, .int .u16 0, .int .u16 0, .int .u16 0, .int .i64 0, .int .i64 0, .bool false, .int .i64 0, .slice OA 0 oc] 27)).heap.size = w.heap.size + 1 by simp] at hb4
       have hbx := box14 _ _ _ _ _ _ _ _ _ _ _ _ _ _ _ w w4 hk4
       have hz4 : w.heap.size < w4.heap.size := hbx.lt
       have HX4 := Lib.hid hbx
       obtain ⟨hc0, hc1, hc2, hc3, hc4, hc5, hc6, hc7, hc8, hc9, hc10, hc11, hc12, hc13⟩ := cells14 hbx
       clear hb4 hk4 hbx)
    | (go_at_call 53
       have hb5 : Below w4.heap.size w4 (w4.alloc (.cells #[.int .u8 1] 5)) := (Below.refl _ _).alloc (Nat.le_refl _) _
       refine (refpack_any BA bl bc bs _ (HR.out _ (HB4.out.trans (hb5.mono HB4.out.size))) (by omega)).mono ?_
       rintro e w7 ⟨rfl, hw7, hb7⟩
       have hr7 := hw7.row
       rw [pk_length, HN.out, show (w4.alloc (.cells #[.int .u8 1] 5)).heap.size = w4.heap.size + 1 by simp] at hr7
       have hal : Below w7.heap.size w7 (w7.alloc (.cells #[.int .u8 ((nb bl : Nat) : Int)] 5)) := (Below.refl _ _).alloc (Nat.le_refl _) _
       have HO7 : Hid ((w7.alloc (.cells #[.int .u8 ((nb bl : Nat) : Int)] 5)).ownsRow w.heap.size 5 1 (.slice (some ⟨w4.heap.size, 0, none⟩) 1 1) 1 ([(1 : Int)].map (Value.int .u8))) :=
         own_keep (own_keep (own_of_whole (show WholeV (w4.alloc (.cells #[.int .u8 1] 5)) w4.heap.size 5 [.int .u8 1] from heap_alloc_new w4 _) (Nat.le_of_lt hz4) rfl (by decide)) hb7) hal
       have HRx : Hid (Row .u8 (w7.alloc (.cells #[.int .u8 ((nb bl : Nat) : Int)] 5)) (w7.alloc (.cells #[.int .u8 ((nb bl : Nat) : Int)] 5)).heap.size (some ⟨w4.heap.size + 1, 0, none⟩) (nb bl) (pk bs bl)) := (hr7.below hal).more hal.size
       have HRq : Hid (RowV (w7.alloc (.cells #[.int .u8 ((nb bl : Nat) : Int)] 5)) (w7.alloc (.cells #[.int .u8 ((nb bl : Nat) : Int)] 5)).heap.size (some ⟨w7.heap.size, 0, none⟩) 1 [.int .u8 ((nb bl : Nat) : Int)]) := built_row w7 _ [.int .u8 ((nb bl : Nat) : Int)] _ (Below.refl _ _)
       have hb8 := (hb5.trans (hb7.mono (by simp))).trans (hal.mono (Nat.le_trans hb5.size hb7.size))
       have HB7 := Lib.hid (HB4.out.trans (hb8.mono HB4.out.size))
       clear hw7 hb7 hr7 hal hb5 hb8)
    | (at_builtin
       refine wpList_append_row _ (o := ⟨some 41, _, _, _, _, _⟩) ?_ (.tmp 36) (.tmp 40) 33 ?_ w.heap.size 5 (.int .u8 0) 1 Try.underlying33 info5 rfl (.slice (some ⟨w4.heap.size, 0, none⟩) 1 1) 1 _ ?_ HO7.out _ (some ⟨w7.heap.size, 0, none⟩) 1 1 _ ?_ HRq.out (by simp [Value.oneCell']) (by omega) (by omega) HB7.out.size ?_
       · rfl
       · rfl
       · rfl
       · rfl
       intro v8 w8 hown8 hg8 hat8
       obtain ⟨A8, c8, rfl⟩ := own_slice hown8
       have HR8 := Lib.hid (far_row' HRx.out (fun ad h => by injection h with h; subst h; simp [Value.ownBlock]) hg8)
       have HB8 := Lib.hid (below_append HB7.out HO7.out hg8 HB7.out.size)
       have HO8 := Lib.hid hown8
       clear hown8 hg8 hat8)
    | (at_builtin
       refine wpList_append_row _ (o := ⟨some 43, _, _, _, _, _⟩) ?_ (.tmp 41) (.tmp 42) 33 ?_ w.heap.size 5 (.int .u8 0) 1 Try.underlying33 info5 rfl (.slice A8 (1 + 1) c8) (1 + 1) _ ?_ HO8.out _ (some ⟨w4.heap.size + 1, 0, none⟩) (nb bl) (nb bl) _ ?_ HR8.out.v (one_cells _ _) (by omega) (by omega) HB8.out.size ?_
       · rfl
       · rfl
       · rfl
       · rfl
       intro v9 w9 hown9 hg9 hat9
       obtain ⟨m9, hm9⟩ : ∃ m9, 1 + 1 + (nb bl) = m9 := ⟨_, rfl⟩
       rw [hm9] at hown9
       obtain ⟨A9, c9, rfl⟩ := own_slice hown9
       have HB9 := Lib.hid (below_append HB8.out HO8.out hg9 HB8.out.size)
       have HM9 : Hid (m9 = 2 + nb bl) := Lib.hid (by omega)
       have e : [(1 : Int)].map (Value.int .u8) ++ [Value.int .u8 ((nb bl : Nat) : Int)] ++ (pk bs bl).map (Value.int .u8) = ([1, ((nb bl : Nat) : Int)] ++ pk bs bl).map (Value.int .u8) := by simp
       rw [e] at hown9
       have HO9 := Lib.hid hown9
       clear hown9 hg9 hat9 hm9 e))
  go_ret2
  exact ⟨m9, A9, c9, rfl, HM9.out, (own_row HO9.out).ints, HB9.out⟩

set_option maxRecDepth 100000 in
set_option maxHeartbeats 2000000 in
theorem rtb_2 (bl : Nat) (bs : List Bool) (BA WA OA : Option Addr) (bc wc oc : Nat) (w : World) (hl : 1 ≤ bl ∧ bl ≤ 2000) (hr : BRow w w.heap.size BA bl bs) :
    Calls Try.prog 16 #[.agg #[.int .i64 2, .int .i64 0, .slice BA bl bc, .slice WA 0 wc, .int .i64 0, .int .i64 0, .int .u16 0, .int .u16 0, .int .u16 0, .int .i64 0, .int .i64 0, .bool false, .int .i64 0, .slice OA 0 oc]] w fun e w' => ∃ m C cc, e = .returned (.tuple #[.slice C m cc, .int .i64 0]) ∧ m = 2 + (nb bl) ∧ Row .u8 w' w'.heap.size C m ([2, ((nb bl : Nat) : Int)] ++ pk bs bl) ∧ Below w.heap.size w w' := by
  have hq1 : nb bl ≤ 250 := by unfold nb; omega
  have CB := Lib.hid (fun W (hW : Below w.heap.size w W) => rtells_any 2 0 bl 0 0 0 0 0 0 0 0 false 0 0 BA WA OA bc wc oc true W [] (by omega) OL.nil (by omega) (fun o ho => by cases ho) (by decide))
  rw [decide_eq_true (show tellP 2 0 bl 0 0 0 0 0 0 0 0 false.toNat 0 0 true.toNat by
    refine tell_nought.2 ⟨rfl, by omega, ?_, ?_⟩
    · have h1 : true.toNat = 1 := rfl
      unfold rangT
      omega
    · unfold restT
      have h1 : false.toNat = 0 := rfl
      omega)] at CB
  have HR := Lib.hid (fun W (hb : Below w.heap.size w W) => (hr.below hb).more hb.size)
  have HN := Lib.hid hr.1
  have hwq : IntKind.u8.wrap ((nb bl : Nat) : Int) = ((nb bl : Nat) : Int) := IntWalk.u8_in _ (by omega)
  clear hr
  go_enter Try.func16, Try.ntmps16
  go_wp2_with (first
    | (go_at_call 18
       refine (CB.out _ ((Below.refl _ _).alloc (Nat.le_refl _) _)).mono ?_
       rintro e w4 ⟨rfl, hb4⟩
       have HB4 : Hid (Below w.heap.size w w4) := ((Below.refl _ _).alloc (Nat.le_refl _) _).trans (hb4.mono (by simp))
       have hk4 : Below (w.heap.size + 1) (w.alloc (.cells #[.int .i64 2, .int .i64 0, .slice BA bl bc, .slice WA 0 wc, .int .i64 0, .int .i64 0, .int .u16 0, .int .u16 0, .int .u16 0, .int .i64 0, .int .i64 0, .bool false, .int .i64 0, .slice OA 0 oc] 27)) w4 := by
         rwa [show (w.alloc (.cells #[.int .i64 2, .int .i64 0, .slice BA bl bc, .slice WA 0 wc, .int .i64 0, .int .i64 0, .int .u16 0, .int .u16 0, .int .u16 0, .int .i64 0, .int .i64 0, .bool false, .int .i64 0, .slice OA 0 oc] 27)).heap.size = w.heap.size + 1 by simp] at hb4
       have hbx := box14 _ _ _ _ _ _ _ _ _ _ _ _ _ _ _ w w4 hk4
       have hz4 : w.heap.size < w4.heap.size := hbx.lt
       have HX4 := Lib.hid hbx
       obtain ⟨hc0, hc1, hc2, hc3, hc4, hc5, hc6, hc7, hc8, hc9, hc10, hc11, hc12, hc13⟩ := cells14 hbx
       clear hb4 hk4 hbx)
    | (go_at_call 53
       have hb5 : Below w4.heap.size w4 (w4.alloc (.cells #[.int .u8 2] 5)) := (Below.refl _ _).alloc (Nat.le_refl _) _
       refine (refpack_any BA bl bc bs _ (HR.out _ (HB4.out.trans (hb5.mono HB4.out.size))) (by omega)).mono ?_
       rintro e w7 ⟨rfl, hw7, hb7⟩
       have hr7 := hw7.row
       rw [pk_length, HN.out, show (w4.alloc (.cells #[.int .u8 2] 5)).heap.size = w4.heap.size + 1 by simp] at hr7
       have hal : Below w7.heap.size w7 (w7.alloc (.cells #[.int .u8 ((nb bl : Nat) : Int)] 5)) := (Below.refl _ _).alloc (Nat.le_refl _) _
       have HO7 : Hid ((w7.alloc (.cells #[.int .u8 ((nb bl : Nat) : Int)] 5)).ownsRow w.heap.size 5 1 (.slice (some ⟨w4.heap.size, 0, none⟩) 1 1) 1 ([(2 : Int)].map (Value.int .u8))) :=
         own_keep (own_keep (own_of_whole (show WholeV (w4.alloc (.cells #[.int .u8 2] 5)) w4.heap.size 5 [.int .u8 2] from heap_alloc_new w4 _) (Nat.le_of_lt hz4) rfl (by decide)) hb7) hal
       have HRx : Hid (Row .u8 (w7.alloc (.cells #[.int .u8 ((nb bl : Nat) : Int)] 5)) (w7.alloc (.cells #[.int .u8 ((nb bl : Nat) : Int)] 5)).heap.size (some ⟨w4.heap.size + 1, 0, none⟩) (nb bl) (pk bs bl)) := (hr7.below hal).more hal.size
       have HRq : Hid (RowV (w7.alloc (.cells #[.int .u8 ((nb bl : Nat) : Int)] 5)) (w7.alloc (.cells #[.int .u8 ((nb bl : Nat) : Int)] 5)).heap.size (some ⟨w7.heap.size, 0, none⟩) 1 [.int .u8 ((nb bl : Nat) : Int)]) := built_row w7 _ [.int .u8 ((nb bl : Nat) : Int)] _ (Below.refl _ _)
       have hb8 := (hb5.trans (hb7.mono (by simp))).trans (hal.mono (Nat.le_trans hb5.size hb7.size))
       have HB7 := Lib.hid (HB4.out.trans (hb8.mono HB4.out.size))
       clear hw7 hb7 hr7 hal hb5 hb8)
    | (at_builtin
       refine wpList_append_row _ (o := ⟨some 41, _, _, _, _, _⟩) ?_ (.tmp 36) (.tmp 40) 33 ?_ w.heap.size 5 (.int .u8 0) 1 Try.underlying33 info5 rfl (.slice (some ⟨w4.heap.size, 0, none⟩) 1 1) 1 _ ?_ HO7.out _ (some ⟨w7.heap.size, 0, none⟩) 1 1 _ ?_ HRq.out (by simp [Value.oneCell']) (by omega) (by omega) HB7.out.size ?_
       · rfl
       · rfl
       · rfl
       · rfl
       intro v8 w8 hown8 hg8 hat8
       obtain ⟨A8, c8, rfl⟩ := own_slice hown8
       have HR8 := Lib.hid (far_row' HRx.out (fun ad h => by injection h with h; subst h; simp [Value.ownBlock]) hg8)
       have HB8 := Lib.hid (below_append HB7.out HO7.out hg8 HB7.out.size)
       have HO8 := Lib.hid hown8
       clear hown8 hg8 hat8)
    | (at_builtin
       refine wpList_append_row _ (o := ⟨some 43, _, _, _, _, _⟩) ?_ (.tmp 41) (.tmp 42) 33 ?_ w.heap.size 5 (.int .u8 0) 1 Try.underlying33 info5 rfl (.slice A8 (1 + 1) c8) (1 + 1) _ ?_ HO8.out _ (some ⟨w4.heap.size + 1, 0, none⟩) (nb bl) (nb bl) _ ?_ HR8.out.v (one_cells _ _) (by omega) (by omega) HB8.out.size ?_
       · rfl
       · rfl
       · rfl
       · rfl
       intro v9 w9 hown9 hg9 hat9
       obtain ⟨m9, hm9⟩ : ∃ m9, 1 + 1 + (nb bl) = m9 := ⟨_, rfl⟩
       rw [hm9] at hown9
       obtain ⟨A9, c9, rfl⟩ := own_slice hown9
       have HB9 := Lib.hid (below_append HB8.out HO8.out hg9 HB8.out.size)
       have HM9 : Hid (m9 = 2 + nb bl) := Lib.hid (by omega)
       have e : [(2 : Int)].map (Value.int .u8) ++ [Value.int .u8 ((nb bl : Nat) : Int)] ++ (pk bs bl).map (Value.int .u8) = ([2, ((nb bl : Nat) : Int)] ++ pk bs bl).map (Value.int .u8) := by simp
       rw [e] at hown9
       have HO9 := Lib.hid hown9
       clear hown9 hg9 hat9 hm9 e))
  go_ret2
  exact ⟨m9, A9, c9, rfl, HM9.out, (own_row HO9.out).ints, HB9.out⟩

set_option maxRecDepth 100000 in
set_option maxHeartbeats 2000000 in
theorem rtb_3 (wl : Nat) (ws : List Int) (BA WA OA : Option Addr) (bc wc oc : Nat) (w : World) (hl : 1 ≤ wl ∧ wl ≤ 125) (hr : Row .u16 w w.heap.size WA wl ws) (hx : Words ws) :
    Calls Try.prog 16 #[.agg #[.int .i64 3, .int .i64 0, .slice BA 0 bc, .slice WA wl wc, .int .i64 0, .int .i64 0, .int .u16 0, .int .u16 0, .int .u16 0, .int .i64 0, .int .i64 0, .bool false, .int .i64 0, .slice OA 0 oc]] w fun e w' => ∃ m C cc, e = .returned (.tuple #[.slice C m cc, .int .i64 0]) ∧ m = 2 + (2 * wl) ∧ Row .u8 w' w'.heap.size C m ([3, ((2 * wl : Nat) : Int)] ++ flat ws) ∧ Below w.heap.size w w' := by
  have hq1 : 2 * wl ≤ 250 := by omega
  have CB := Lib.hid (fun W (hW : Below w.heap.size w W) => rtells_any 3 0 0 wl 0 0 0 0 0 0 0 false 0 0 BA WA OA bc wc oc true W [] (by omega) OL.nil (by omega) (fun o ho => by cases ho) (by decide))
  rw [decide_eq_true (show tellP 3 0 0 wl 0 0 0 0 0 0 0 false.toNat 0 0 true.toNat by
    refine tell_nought.2 ⟨rfl, by omega, ?_, ?_⟩
    · have h1 : true.toNat = 1 := rfl
      unfold rangT
      omega
    · unfold restT
      have h1 : false.toNat = 0 := rfl
      omega)] at CB
  have HR := Lib.hid (fun W (hb : Below w.heap.size w W) => (hr.below hb).more hb.size)
  have HX := Lib.hid hx
  clear hx
  have HN := Lib.hid hr.1
  have hw1 : IntKind.i64.wrap (2 * (wl : Int)) = 2 * (wl : Int) := IntWalk.i64_in _ (by omega)
  have hw2 : IntKind.u8.wrap (2 * (wl : Int)) = 2 * (wl : Int) := IntWalk.u8_in _ (by omega)
  clear hr
  go_enter Try.func16, Try.ntmps16
  go_wp2_with (first
    | (go_at_call 18
       refine (CB.out _ ((Below.refl _ _).alloc (Nat.le_refl _) _)).mono ?_
       rintro e w4 ⟨rfl, hb4⟩
       have HB4 : Hid (Below w.heap.size w w4) := ((Below.refl _ _).alloc (Nat.le_refl _) _).trans (hb4.mono (by simp))
       have hk4 : Below (w.heap.size + 1) (w.alloc (.cells #[.int .i64 3, .int .i64 0, .slice BA 0 bc, .slice WA wl wc, .int .i64 0, .int .i64 0, .int .u16 0, .int .u16 0, .int .u16 0, .int .i64 0, .int .i64 0, .bool false, .int .i64 0, .slice OA 0 oc] 27)) w4 := by
         rwa [show (w.alloc (.cells #[.int .i64 3, .int .i64 0, .slice BA 0 bc, .slice WA wl wc, .int .i64 0, .int .i64 0, .int .u16 0, .int .u16 0, .int .u16 0, .int .i64 0, .int .i64 0, .bool false, .int .i64 0, .slice OA 0 oc] 27)).heap.size = w.heap.size + 1 by simp] at hb4
       have hbx := box14 _ _ _ _ _ _ _ _ _ _ _ _ _ _ _ w w4 hk4
       have hz4 : w.heap.size < w4.heap.size := hbx.lt
       have HX4 := Lib.hid hbx
       obtain ⟨hc0, hc1, hc2, hc3, hc4, hc5, hc6, hc7, hc8, hc9, hc10, hc11, hc12, hc13⟩ := cells14 hbx
       clear hb4 hk4 hbx))
  obtain ⟨w5, hw5⟩ : ∃ w5, (w4.alloc (.cells #[.int .u8 3] 5)) = w5 := ⟨_, rfl⟩
  have hb5 : Below w4.heap.size w4 w5 := by rw [← hw5]; exact (Below.refl _ _).alloc (Nat.le_refl _) _
  have HB5 : Hid (Below w.heap.size w w5) := HB4.out.trans (hb5.mono HB4.out.size)
  have HX5 := Lib.hid (HX4.out.below hb5 hz4)
  have HO5 : Hid (w5.ownsRow w4.heap.size 5 1 (.slice (some ⟨w4.heap.size, 0, none⟩) 1 1) 1 [.int .u8 3]) := by
    rw [← hw5]
    exact own_of_whole (show WholeV _ w4.heap.size 5 [.int .u8 3] from heap_alloc_new w4 _) (Nat.le_refl _) rfl (by decide)
  have HB45 := Lib.hid hb5
  have HZ5 : Hid (w4.heap.size ≤ w5.heap.size) := hb5.size
  rw [hw5]
  clear hw5 hb5 hc0 hc1 hc2 hc3 hc4 hc5 hc6 hc7 hc8 hc9 hc10 hc11 hc12 hc13
  have KS : Hid (∀ W, Below w4.heap.size w4 W → W.cell? ⟨w.heap.size, 3, none⟩ = some (.slice WA wl wc) ∧ Below w4.heap.size w4 W) := fun W hb => ⟨(HX4.out.below hb hz4).cell 3, hb⟩
  have KB : Hid (∀ W, (W.cell? ⟨w.heap.size, 3, none⟩ = some (.slice WA wl wc) ∧ Below w4.heap.size w4 W) → Below w4.heap.size w4 W) := fun W h => h.2
  have KT : Hid (∀ W W', (W.cell? ⟨w.heap.size, 3, none⟩ = some (.slice WA wl wc) ∧ Below w4.heap.size w4 W) → Below W.heap.size W W' → W'.cell? ⟨w.heap.size, 3, none⟩ = some (.slice WA wl wc) ∧ Below w4.heap.size w4 W') := fun W W' h hb => KS.out _ ((KB.out _ h).trans (hb.mono (KB.out _ h).size))
  go_region_held3 (fun W => W.cell? ⟨w.heap.size, 3, none⟩ = some (.slice WA wl wc) ∧ Below w4.heap.size w4 W)
    (first
      | exact KS.out _ HB45.out
      | exact KS.out _ HB45.out.drew
      | exact KS.out _ hb8
      | exact KT.out _ _ (by assumption) hb9
      | exact KT.out _ _ (by assumption) ((Below.refl _ _).alloc (Nat.le_refl _) _))
    (first
      | (refine step_append_at (.tmp 48) (.tmp 54) 33 w4.heap.size 5 (.int .u8 0) 1 Try.underlying33 info5 rfl (.slice (some ⟨w4.heap.size, 0, none⟩) 1 1) 1 [.int .u8 3] 1 [.int .u8 (2 * (wl : Int))] 2 ([3, 2 * (wl : Int)].map (Value.int .u8)) rfl rfl (by simp [Value.oneCell']) (by omega) (by omega) ?_ ?_ ?_ ?_ ?_
         · exact ⟨rfl, rfl, rfl⟩
         · first | exact HO5.out.alloc _ | exact HO5.out.drew.alloc _ | exact (HO5.out.alloc _).drew
         · first
             | exact ⟨_, _, rfl, built_row _ _ [.int .u8 (2 * (wl : Int))] _ (Below.refl _ _)⟩
             | exact ⟨_, _, rfl, built_row _ _ [.int .u8 (2 * (wl : Int))] _ (Below.refl _ _).drew⟩
         · exact (KB.out _ (by assumption)).size
         intro A8 c8 w8 ho8 hg8 hat8
         have hb8 : Below w4.heap.size w4 w8 := by first | exact below_append (KB.out _ (by assumption)) (HO5.out.alloc _) hg8 (KB.out _ (by assumption)).size | exact below_append (KB.out _ (by assumption)) (HO5.out.drew.alloc _) hg8 (KB.out _ (by assumption)).size | exact below_append (KB.out _ (by assumption)) (HO5.out.alloc _).drew hg8 (KB.out _ (by assumption)).size)
      | (go_at_call 54
         refine (rwords A8 2 c8 [3, 2 * (wl : Int)] WA wl wc ws _ (own_row ho8).ints (HR.out _ (HB4.out.trans ((KB.out _ (by assumption)).mono HB4.out.size))) HX.out (by omega) (by omega)).mono ?_
         rintro e w9 ⟨C9, c9, he9, hr9, hb9⟩
         obtain ⟨m9, hm9⟩ : ∃ m9, 2 + 2 * wl = m9 := ⟨_, rfl⟩
         rw [hm9] at he9 hr9
         subst he9
         have HM9 : Hid (m9 = 2 + 2 * wl) := Lib.hid hm9.symm
         have HR9 := Lib.hid hr9
         clear hr9 hm9))
  all_goals
    go_wp2
    go_ret2
    exact ⟨m9, C9, c9, rfl, HM9.out, HR9.out, HB4.out.trans ((KB.out _ (by assumption)).mono HB4.out.size)⟩

set_option maxRecDepth 100000 in
set_option maxHeartbeats 2000000 in
theorem rtb_4 (wl : Nat) (ws : List Int) (BA WA OA : Option Addr) (bc wc oc : Nat) (w : World) (hl : 1 ≤ wl ∧ wl ≤ 125) (hr : Row .u16 w w.heap.size WA wl ws) (hx : Words ws) :
    Calls Try.prog 16 #[.agg #[.int .i64 4, .int .i64 0, .slice BA 0 bc, .slice WA wl wc, .int .i64 0, .int .i64 0, .int .u16 0, .int .u16 0, .int .u16 0, .int .i64 0, .int .i64 0, .bool false, .int .i64 0, .slice OA 0 oc]] w fun e w' => ∃ m C cc, e = .returned (.tuple #[.slice C m cc, .int .i64 0]) ∧ m = 2 + (2 * wl) ∧ Row .u8 w' w'.heap.size C m ([4, ((2 * wl : Nat) : Int)] ++ flat ws) ∧ Below w.heap.size w w' := by
  have hq1 : 2 * wl ≤ 250 := by omega
  have CB := Lib.hid (fun W (hW : Below w.heap.size w W) => rtells_any 4 0 0 wl 0 0 0 0 0 0 0 false 0 0 BA WA OA bc wc oc true W [] (by omega) OL.nil (by omega) (fun o ho => by cases ho) (by decide))
  rw [decide_eq_true (show tellP 4 0 0 wl 0 0 0 0 0 0 0 false.toNat 0 0 true.toNat by
    refine tell_nought.2 ⟨rfl, by omega, ?_, ?_⟩
    · have h1 : true.toNat = 1 := rfl
      unfold rangT
      omega
    · unfold restT
      have h1 : false.toNat = 0 := rfl
      omega)] at CB
  have HR := Lib.hid (fun W (hb : Below w.heap.size w W) => (hr.below hb).more hb.size)
  have HX := Lib.hid hx
  clear hx
  have HN := Lib.hid hr.1
  have hw1 : IntKind.i64.wrap (2 * (wl : Int)) = 2 * (wl : Int) := IntWalk.i64_in _ (by omega)
  have hw2 : IntKind.u8.wrap (2 * (wl : Int)) = 2 * (wl : Int) := IntWalk.u8_in _ (by omega)
  clear hr
  go_enter Try.func16, Try.ntmps16
  go_wp2_with (first
    | (go_at_call 18
       refine (CB.out _ ((Below.refl _ _).alloc (Nat.le_refl _) _)).mono ?_
       rintro e w4 ⟨rfl, hb4⟩
       have HB4 : Hid (Below w.heap.size w w4) := ((Below.refl _ _).alloc (Nat.le_refl _) _).trans (hb4.mono (by simp))
       have hk4 : Below (w.heap.size + 1) (w.alloc (.cells #[.int .i64 4, .int .i64 0, .slice BA 0 bc, .slice WA wl wc, .int .i64 0, .int .i64 0, .int .u16 0, .int .u16 0, .int .u16 0, .int .i64 0, .int .i64 0, .bool false, .int .i64 0, .slice OA 0 oc] 27)) w4 := by
         rwa [show (w.alloc (.cells #[.int .i64 4, .int .i64 0, .slice BA 0 bc, .slice WA wl wc, .int .i64 0, .int .i64 0, .int .u16 0, .int .u16 0, .int .u16 0, .int .i64 0, .int .i64 0, .bool false, .int .i64 0, .slice OA 0 oc] 27)).heap.size = w.heap.size + 1 by simp] at hb4
       have hbx := box14 _ _ _ _ _ _ _ _ _ _ _ _ _ _ _ w w4 hk4
       have hz4 : w.heap.size < w4.heap.size := hbx.lt
       have HX4 := Lib.hid hbx
       obtain ⟨hc0, hc1, hc2, hc3, hc4, hc5, hc6, hc7, hc8, hc9, hc10, hc11, hc12, hc13⟩ := cells14 hbx
       clear hb4 hk4 hbx))
  obtain ⟨w5, hw5⟩ : ∃ w5, (w4.alloc (.cells #[.int .u8 4] 5)) = w5 := ⟨_, rfl⟩
  have hb5 : Below w4.heap.size w4 w5 := by rw [← hw5]; exact (Below.refl _ _).alloc (Nat.le_refl _) _
  have HB5 : Hid (Below w.heap.size w w5) := HB4.out.trans (hb5.mono HB4.out.size)
  have HX5 := Lib.hid (HX4.out.below hb5 hz4)
  have HO5 : Hid (w5.ownsRow w4.heap.size 5 1 (.slice (some ⟨w4.heap.size, 0, none⟩) 1 1) 1 [.int .u8 4]) := by
    rw [← hw5]
    exact own_of_whole (show WholeV _ w4.heap.size 5 [.int .u8 4] from heap_alloc_new w4 _) (Nat.le_refl _) rfl (by decide)
  have HB45 := Lib.hid hb5
  have HZ5 : Hid (w4.heap.size ≤ w5.heap.size) := hb5.size
  rw [hw5]
  clear hw5 hb5 hc0 hc1 hc2 hc3 hc4 hc5 hc6 hc7 hc8 hc9 hc10 hc11 hc12 hc13
  have KS : Hid (∀ W, Below w4.heap.size w4 W → W.cell? ⟨w.heap.size, 3, none⟩ = some (.slice WA wl wc) ∧ Below w4.heap.size w4 W) := fun W hb => ⟨(HX4.out.below hb hz4).cell 3, hb⟩
  have KB : Hid (∀ W, (W.cell? ⟨w.heap.size, 3, none⟩ = some (.slice WA wl wc) ∧ Below w4.heap.size w4 W) → Below w4.heap.size w4 W) := fun W h => h.2
  have KT : Hid (∀ W W', (W.cell? ⟨w.heap.size, 3, none⟩ = some (.slice WA wl wc) ∧ Below w4.heap.size w4 W) → Below W.heap.size W W' → W'.cell? ⟨w.heap.size, 3, none⟩ = some (.slice WA wl wc) ∧ Below w4.heap.size w4 W') := fun W W' h hb => KS.out _ ((KB.out _ h).trans (hb.mono (KB.out _ h).size))
  go_region_held3 (fun W => W.cell? ⟨w.heap.size, 3, none⟩ = some (.slice WA wl wc) ∧ Below w4.heap.size w4 W)
    (first
      | exact KS.out _ HB45.out
      | exact KS.out _ HB45.out.drew
      | exact KS.out _ hb8
      | exact KT.out _ _ (by assumption) hb9
      | exact KT.out _ _ (by assumption) ((Below.refl _ _).alloc (Nat.le_refl _) _))
    (first
      | (refine step_append_at (.tmp 48) (.tmp 54) 33 w4.heap.size 5 (.int .u8 0) 1 Try.underlying33 info5 rfl (.slice (some ⟨w4.heap.size, 0, none⟩) 1 1) 1 [.int .u8 4] 1 [.int .u8 (2 * (wl : Int))] 2 ([4, 2 * (wl : Int)].map (Value.int .u8)) rfl rfl (by simp [Value.oneCell']) (by omega) (by omega) ?_ ?_ ?_ ?_ ?_
         · exact ⟨rfl, rfl, rfl⟩
         · first | exact HO5.out.alloc _ | exact HO5.out.drew.alloc _ | exact (HO5.out.alloc _).drew
         · first
             | exact ⟨_, _, rfl, built_row _ _ [.int .u8 (2 * (wl : Int))] _ (Below.refl _ _)⟩
             | exact ⟨_, _, rfl, built_row _ _ [.int .u8 (2 * (wl : Int))] _ (Below.refl _ _).drew⟩
         · exact (KB.out _ (by assumption)).size
         intro A8 c8 w8 ho8 hg8 hat8
         have hb8 : Below w4.heap.size w4 w8 := by first | exact below_append (KB.out _ (by assumption)) (HO5.out.alloc _) hg8 (KB.out _ (by assumption)).size | exact below_append (KB.out _ (by assumption)) (HO5.out.drew.alloc _) hg8 (KB.out _ (by assumption)).size | exact below_append (KB.out _ (by assumption)) (HO5.out.alloc _).drew hg8 (KB.out _ (by assumption)).size)
      | (go_at_call 54
         refine (rwords A8 2 c8 [4, 2 * (wl : Int)] WA wl wc ws _ (own_row ho8).ints (HR.out _ (HB4.out.trans ((KB.out _ (by assumption)).mono HB4.out.size))) HX.out (by omega) (by omega)).mono ?_
         rintro e w9 ⟨C9, c9, he9, hr9, hb9⟩
         obtain ⟨m9, hm9⟩ : ∃ m9, 2 + 2 * wl = m9 := ⟨_, rfl⟩
         rw [hm9] at he9 hr9
         subst he9
         have HM9 : Hid (m9 = 2 + 2 * wl) := Lib.hid hm9.symm
         have HR9 := Lib.hid hr9
         clear hr9 hm9))
  all_goals
    go_wp2
    go_ret2
    exact ⟨m9, C9, c9, rfl, HM9.out, HR9.out, HB4.out.trans ((KB.out _ (by assumption)).mono HB4.out.size)⟩

set_option maxRecDepth 100000 in
set_option maxHeartbeats 2000000 in
theorem rtb_23 (wl : Nat) (ws : List Int) (BA WA OA : Option Addr) (bc wc oc : Nat) (w : World) (hl : 1 ≤ wl ∧ wl ≤ 125) (hr : Row .u16 w w.heap.size WA wl ws) (hx : Words ws) :
    Calls Try.prog 16 #[.agg #[.int .i64 23, .int .i64 0, .slice BA 0 bc, .slice WA wl wc, .int .i64 0, .int .i64 0, .int .u16 0, .int .u16 0, .int .u16 0, .int .i64 0, .int .i64 0, .bool false, .int .i64 0, .slice OA 0 oc]] w fun e w' => ∃ m C cc, e = .returned (.tuple #[.slice C m cc, .int .i64 0]) ∧ m = 2 + (2 * wl) ∧ Row .u8 w' w'.heap.size C m ([23, ((2 * wl : Nat) : Int)] ++ flat ws) ∧ Below w.heap.size w w' := by
  have hq1 : 2 * wl ≤ 250 := by omega
  have CB := Lib.hid (fun W (hW : Below w.heap.size w W) => rtells_any 23 0 0 wl 0 0 0 0 0 0 0 false 0 0 BA WA OA bc wc oc true W [] (by omega) OL.nil (by omega) (fun o ho => by cases ho) (by decide))
  rw [decide_eq_true (show tellP 23 0 0 wl 0 0 0 0 0 0 0 false.toNat 0 0 true.toNat by
    refine tell_nought.2 ⟨rfl, by omega, ?_, ?_⟩
    · have h1 : true.toNat = 1 := rfl
      unfold rangT
      omega
    · unfold restT
      have h1 : false.toNat = 0 := rfl
      omega)] at CB
  have HR := Lib.hid (fun W (hb : Below w.heap.size w W) => (hr.below hb).more hb.size)
  have HX := Lib.hid hx
  clear hx
  have HN := Lib.hid hr.1
  have hw1 : IntKind.i64.wrap (2 * (wl : Int)) = 2 * (wl : Int) := IntWalk.i64_in _ (by omega)
  have hw2 : IntKind.u8.wrap (2 * (wl : Int)) = 2 * (wl : Int) := IntWalk.u8_in _ (by omega)
  clear hr
  go_enter Try.func16, Try.ntmps16
  go_wp2_with (first
    | (go_at_call 18
       refine (CB.out _ ((Below.refl _ _).alloc (Nat.le_refl _) _)).mono ?_
       rintro e w4 ⟨rfl, hb4⟩
       have HB4 : Hid (Below w.heap.size w w4) := ((Below.refl _ _).alloc (Nat.le_refl _) _).trans (hb4.mono (by simp))
       have hk4 : Below (w.heap.size + 1) (w.alloc (.cells #[.int .i64 23, .int .i64 0, .slice BA 0 bc, .slice WA wl wc, .int .i64 0, .int .i64 0, .int .u16 0, .int .u16 0, .int .u16 0, .int .i64 0, .int .i64 0, .bool false, .int .i64 0, .slice OA 0 oc] 27)) w4 := by
         rwa [show (w.alloc (.cells #[.int .i64 23, .int .i64 0, .slice BA 0 bc, .slice WA wl wc, .int .i64 0, .int .i64 0, .int .u16 0, .int .u16 0, .int .u16 0, .int .i64 0, .int .i64 0, .bool false, .int .i64 0, .slice OA 0 oc] 27)).heap.size = w.heap.size + 1 by simp] at hb4
       have hbx := box14 _ _ _ _ _ _ _ _ _ _ _ _ _ _ _ w w4 hk4
       have hz4 : w.heap.size < w4.heap.size := hbx.lt
       have HX4 := Lib.hid hbx
       obtain ⟨hc0, hc1, hc2, hc3, hc4, hc5, hc6, hc7, hc8, hc9, hc10, hc11, hc12, hc13⟩ := cells14 hbx
       clear hb4 hk4 hbx))
  obtain ⟨w5, hw5⟩ : ∃ w5, (w4.alloc (.cells #[.int .u8 23] 5)) = w5 := ⟨_, rfl⟩
  have hb5 : Below w4.heap.size w4 w5 := by rw [← hw5]; exact (Below.refl _ _).alloc (Nat.le_refl _) _
  have HB5 : Hid (Below w.heap.size w w5) := HB4.out.trans (hb5.mono HB4.out.size)
  have HX5 := Lib.hid (HX4.out.below hb5 hz4)
  have HO5 : Hid (w5.ownsRow w4.heap.size 5 1 (.slice (some ⟨w4.heap.size, 0, none⟩) 1 1) 1 [.int .u8 23]) := by
    rw [← hw5]
    exact own_of_whole (show WholeV _ w4.heap.size 5 [.int .u8 23] from heap_alloc_new w4 _) (Nat.le_refl _) rfl (by decide)
  have HB45 := Lib.hid hb5
  have HZ5 : Hid (w4.heap.size ≤ w5.heap.size) := hb5.size
  rw [hw5]
  clear hw5 hb5 hc0 hc1 hc2 hc3 hc4 hc5 hc6 hc7 hc8 hc9 hc10 hc11 hc12 hc13
  have KS : Hid (∀ W, Below w4.heap.size w4 W → W.cell? ⟨w.heap.size, 3, none⟩ = some (.slice WA wl wc) ∧ Below w4.heap.size w4 W) := fun W hb => ⟨(HX4.out.below hb hz4).cell 3, hb⟩
  have KB : Hid (∀ W, (W.cell? ⟨w.heap.size, 3, none⟩ = some (.slice WA wl wc) ∧ Below w4.heap.size w4 W) → Below w4.heap.size w4 W) := fun W h => h.2
  have KT : Hid (∀ W W', (W.cell? ⟨w.heap.size, 3, none⟩ = some (.slice WA wl wc) ∧ Below w4.heap.size w4 W) → Below W.heap.size W W' → W'.cell? ⟨w.heap.size, 3, none⟩ = some (.slice WA wl wc) ∧ Below w4.heap.size w4 W') := fun W W' h hb => KS.out _ ((KB.out _ h).trans (hb.mono (KB.out _ h).size))
  go_region_held3 (fun W => W.cell? ⟨w.heap.size, 3, none⟩ = some (.slice WA wl wc) ∧ Below w4.heap.size w4 W)
    (first
      | exact KS.out _ HB45.out
      | exact KS.out _ HB45.out.drew
      | exact KS.out _ hb8
      | exact KT.out _ _ (by assumption) hb9
      | exact KT.out _ _ (by assumption) ((Below.refl _ _).alloc (Nat.le_refl _) _))
    (first
      | (refine step_append_at (.tmp 48) (.tmp 54) 33 w4.heap.size 5 (.int .u8 0) 1 Try.underlying33 info5 rfl (.slice (some ⟨w4.heap.size, 0, none⟩) 1 1) 1 [.int .u8 23] 1 [.int .u8 (2 * (wl : Int))] 2 ([23, 2 * (wl : Int)].map (Value.int .u8)) rfl rfl (by simp [Value.oneCell']) (by omega) (by omega) ?_ ?_ ?_ ?_ ?_
         · exact ⟨rfl, rfl, rfl⟩
         · first | exact HO5.out.alloc _ | exact HO5.out.drew.alloc _ | exact (HO5.out.alloc _).drew
         · first
             | exact ⟨_, _, rfl, built_row _ _ [.int .u8 (2 * (wl : Int))] _ (Below.refl _ _)⟩
             | exact ⟨_, _, rfl, built_row _ _ [.int .u8 (2 * (wl : Int))] _ (Below.refl _ _).drew⟩
         · exact (KB.out _ (by assumption)).size
         intro A8 c8 w8 ho8 hg8 hat8
         have hb8 : Below w4.heap.size w4 w8 := by first | exact below_append (KB.out _ (by assumption)) (HO5.out.alloc _) hg8 (KB.out _ (by assumption)).size | exact below_append (KB.out _ (by assumption)) (HO5.out.drew.alloc _) hg8 (KB.out _ (by assumption)).size | exact below_append (KB.out _ (by assumption)) (HO5.out.alloc _).drew hg8 (KB.out _ (by assumption)).size)
      | (go_at_call 54
         refine (rwords A8 2 c8 [23, 2 * (wl : Int)] WA wl wc ws _ (own_row ho8).ints (HR.out _ (HB4.out.trans ((KB.out _ (by assumption)).mono HB4.out.size))) HX.out (by omega) (by omega)).mono ?_
         rintro e w9 ⟨C9, c9, he9, hr9, hb9⟩
         obtain ⟨m9, hm9⟩ : ∃ m9, 2 + 2 * wl = m9 := ⟨_, rfl⟩
         rw [hm9] at he9 hr9
         subst he9
         have HM9 : Hid (m9 = 2 + 2 * wl) := Lib.hid hm9.symm
         have HR9 := Lib.hid hr9
         clear hr9 hm9))
  all_goals
    go_wp2
    go_ret2
    exact ⟨m9, C9, c9, rfl, HM9.out, HR9.out, HB4.out.trans ((KB.out _ (by assumption)).mono HB4.out.size)⟩

/-- Append of a text's bytes at a step, onto a row of the call's own. -/
theorem step_append_str {P : Program} {w : World} {ops : Array Oper} {o : Oper} {a : Act} {K : Act → World → Prop} {Q : Exit → Act → World → Prop} {E : Prop} (s x : Operand) (t u : TypeId)
    (base : Nat) (e : TypeId) (ht : P.underlying t = some (.slice e)) (hu : P.underlying u = some .string) (hi : (P.info? e).map (fun i => (i.zero, i.size, i.bytes)) = some (some (.int .u8 0), 1, 1))
    (v : Value) (n : Nat) (xs : List Value) (S : ByteArray) (nm : Nat) (ys : List Value) (hnm : n + S.size = nm) (hys : xs ++ (bsOf S).map (Value.int .u8) = ys) (hm : nm ≤ 1000000)
    (ho : o.guard = none ∧ o.op = .call { callee := .builtin .append, args := #[s, x], argTypes := #[t, u] } ∧ a.eval s = v)
    (hown : w.ownsRow base e 1 v n xs) (hx : a.eval x = .string S) (hbase : base ≤ w.heap.size)
    (h : ∀ A' c' w', w'.ownsRow base e 1 (.slice A' nm c') nm ys → w.grownBy w' v.ownBlock → K (a.put o.dst (.slice A' nm c')) w') :
    if Region.wanted o (yielded ops a.tmps) = true then Oper.wp P o a w K Q else E := by
  obtain ⟨hgd, hop, hs⟩ := ho
  have hw : Region.wanted o (yielded ops a.tmps) = true := by simp [Region.wanted, hgd]
  rw [if_pos hw]
  obtain ⟨i0, hi0, hz0, hz1, hz2⟩ := info_parts hi
  obtain ⟨v', w', hrun, h2, h3, _⟩ := Lib.run_append_own_string (P := P) w base t u o.type e i0 ht hu hi0 hz0 hz1 hz2 v n xs hown S (by unfold maxLen; omega) (by omega) hbase
  obtain ⟨A', c', rfl⟩ := own_slice h2
  have hstr : Lib.strCells S = (bsOf S).map (Value.int .u8) := by simp [Lib.strCells, bsOf]
  rw [hstr, hys, hnm] at h2
  unfold Oper.wp execOp
  simp only [hop, resolve, invoke, builtin, Sem.run_bind, Sem.run_pure, Result.andThen_ok, List.map_toArray, List.map_cons, List.map_nil, hs, hx, hrun]
  rw [hnm]
  exact h A' c' w' h2 h3

/-- A row of seven that was grown. -/
theorem row7 (W : World) (v0 v1 v2 v3 v4 v5 v6 : Value) (C base g : Nat) (hg : W.heap.size = g) (hb : base ≤ g) (h7 : 7 ≤ C) (hC : C ≤ maxLen) :
    ((W.alloc (.cells (#[v0] ++ (#[v1, v2, v3, v4, v5, v6] ++ Builtin.zeroCells #[.int .u8 0] (C - 7))) 5)).drew).ownsRow base 5 1 (.slice (some ⟨g, 0, none⟩) 7 C) 7 [v0, v1, v2, v3, v4, v5, v6] := by
  subst hg
  refine ⟨rfl, .inr ⟨W.heap.size, C, _, rfl, hb, heap_alloc_new W _, h7, hC, ?_, ?_⟩⟩
  · simp [size_zeroCells]
    omega
  · simp

set_option maxRecDepth 100000 in
set_option maxHeartbeats 4000000 in
theorem rtb_43 (co le nx : Int) (mo : Bool) (mb : Int) (os : List Ob) (BA WA OA : Option Addr) (bc wc ol oc : Nat) (w : World) (hm : (if mo then 255 else 0) = mb) (hl : OL w w.heap.size OA ol os) (hf : fitP os) (hc : 1 ≤ co ∧ co ≤ 4) (hle : 0 ≤ le ∧ le ≤ 255) (hnx : 0 ≤ nx ∧ nx ≤ 255) :
    Calls Try.prog 16 #[.agg #[.int .i64 43, .int .i64 0, .slice BA 0 bc, .slice WA 0 wc, .int .i64 0, .int .i64 0, .int .u16 0, .int .u16 0, .int .u16 0, .int .i64 co, .int .i64 le, .bool mo, .int .i64 nx, .slice OA ol oc]] w fun e w' => ∃ m C cc, e = .returned (.tuple #[.slice C m cc, .int .i64 0]) ∧ m = 7 + used os ∧ Row .u8 w' w'.heap.size C m ([43, 14, co, le, mb, nx, (ol : Int)] ++ flatO os) ∧ Below w.heap.size w w' := by
  have hus := hf.2
  have hlen := hl.len
  have hol : ol ≤ 255 := by have := used_ge os; omega
  have hidb := hf.1
  have hszb : ∀ o ∈ os, o.2.size ≤ 255 := fun o ho => by have := used_mem os o ho; omega
  have CB := Lib.hid (fun W (hW : Below w.heap.size w W) => rtells_any 43 0 0 0 0 0 0 0 0 co le mo nx ol BA WA OA bc wc oc true W os (by omega) (hl.below hW) (by omega) (fun o ho => by have := hszb o ho; omega) (decide_eq_true hf))
  rw [decide_eq_true (show tellP 43 0 0 0 0 0 0 0 0 co le mo.toNat nx ol true.toNat by
    refine tell_nought.2 ⟨rfl, by omega, ?_, ?_⟩
    · have h1 : true.toNat = 1 := rfl
      unfold rangT
      omega
    · unfold restT
      omega)] at CB
  have hmb : 0 ≤ mb ∧ mb ≤ 255 := by cases mo <;> simp at hm <;> omega
  have wc1 : IntKind.u8.wrap co = co := IntWalk.u8_in _ (by omega)
  have wc2 : IntKind.u8.wrap le = le := IntWalk.u8_in _ (by omega)
  have wc3 : IntKind.u8.wrap nx = nx := IntWalk.u8_in _ (by omega)
  have wc4 : IntKind.u8.wrap (ol : Int) = ol := IntWalk.u8_in _ (by omega)
  have HL := Lib.hid hl
  have HID := Lib.hid hidb
  have HSS := Lib.hid hszb
  have HLE := Lib.hid hlen
  have HU := Lib.hid hus
  have HM := Lib.hid hm
  clear hl hf hidb hszb hm hlen hus
  cases mo
  · obtain rfl : (0 : Int) = mb := HM.out
    clear hmb HM
    go_enter Try.func16, Try.ntmps16
    go_wp2_with (first
    | (go_at_call 18
       refine (CB.out _ ((Below.refl _ _).alloc (Nat.le_refl _) _)).mono ?_
       rintro e w4 ⟨rfl, hb4⟩
       have HB4 : Hid (Below w.heap.size w w4) := ((Below.refl _ _).alloc (Nat.le_refl _) _).trans (hb4.mono (by simp))
       have HX4 := Lib.hid (box14 _ _ _ _ _ _ _ _ _ _ _ _ _ _ _ w w4 (by first | exact hb4 | simpa using hb4))
       obtain ⟨hc0, hc1, hc2, hc3, hc4, hc5, hc6, hc7, hc8, hc9, hc10, hc11, hc12, hc13⟩ := cells14 HX4.out
       have hz4 : w.heap.size < w4.heap.size := HX4.out.lt
       clear hb4))
    obtain ⟨C, hC⟩ : ∃ C, (Question.appendCap 7 1 5).cut (w4.tape w4.drawn (Question.appendCap 7 1 5)) = C := ⟨_, rfl⟩
    have hC1 : 7 ≤ C := by rw [← hC]; exact grownCap_ge w4 7 1 5
    have hC2 : C ≤ maxLen := by rw [← hC]; exact grownCap_le_maxLen w4 7 1 5 (by unfold maxLen; omega)
    rw [hC]
    have h7 := row7 ((w4.alloc (.cells #[.int .u8 43] 5)).alloc (.cells #[.int .u8 14, .int .u8 co, .int .u8 le, .int .u8 0, .int .u8 nx, .int .u8 (ol : Int)] 5)) (.int .u8 43) (.int .u8 14) (.int .u8 co) (.int .u8 le) (.int .u8 0) (.int .u8 nx) (.int .u8 (ol : Int)) C w4.heap.size (w4.heap.size + 1 + 1) (by simp) (by omega) hC1 hC2
    have hb7 : Below w4.heap.size w4 (((w4.alloc (.cells #[.int .u8 43] 5)).alloc (.cells #[.int .u8 14, .int .u8 co, .int .u8 le, .int .u8 0, .int .u8 nx, .int .u8 (ol : Int)] 5)).alloc (.cells (#[.int .u8 43] ++ (#[.int .u8 14, .int .u8 co, .int .u8 le, .int .u8 0, .int .u8 nx, .int .u8 (ol : Int)] ++ Builtin.zeroCells #[.int .u8 0] (C - 7))) 5)).drew := ((((Below.refl _ _).alloc (Nat.le_refl _) _).alloc (by simp) _).alloc (by simp; omega) _).drew
    obtain ⟨w7, hw7⟩ : ∃ w7, (((w4.alloc (.cells #[.int .u8 43] 5)).alloc (.cells #[.int .u8 14, .int .u8 co, .int .u8 le, .int .u8 0, .int .u8 nx, .int .u8 (ol : Int)] 5)).alloc (.cells (#[.int .u8 43] ++ (#[.int .u8 14, .int .u8 co, .int .u8 le, .int .u8 0, .int .u8 nx, .int .u8 (ol : Int)] ++ Builtin.zeroCells #[.int .u8 0] (C - 7))) 5)).drew = w7 := ⟨_, rfl⟩
    rw [hw7] at h7 hb7
    rw [hw7]
    have HO7 := Lib.hid h7
    have HB7 := Lib.hid hb7
    clear h7 hb7 hw7 hC hC1 hC2 hc0 hc1 hc2 hc3 hc4 hc5 hc6 hc7 hc8 hc9 hc10 hc11 hc12 hc13
    go_loopw [4, 7] (fun b i wr => ∃ (k m : Nat) (B : Option Addr) (d : Nat), k ≤ ol ∧ i = .int .i64 (k : Int) ∧ b = .slice B m d ∧ Hid (m = 7 + used (os.take k)) ∧ Hid (wr.ownsRow w4.heap.size 5 1 (.slice B m d) m (([43, 14, co, le, 0, nx, (ol : Int)] ++ flatO (os.take k)).map (Value.int .u8))) ∧ Hid (Below w4.heap.size w4 wr)) (fun _ i _ => ol - (intOf i).toNat)
    case atStart => exact ⟨0, 7, some ⟨w4.heap.size + 1 + 1, 0, none⟩, C, by omega, rfl, rfl, Lib.hid (by simp [used]), Lib.hid (by simpa [flatO] using HO7.out), HB7⟩
    case round =>
      obtain ⟨k, m, B, d, hk, rfl, rfl, HMm, HOr, HBr⟩ := hrel
      have hx13 : wr.cell? ⟨w.heap.size, 13, none⟩ = some (.slice OA ol oc) := (HBr.out.cell (p := ⟨w.heap.size, 13, none⟩) hz4).trans (HX4.out.cell 13)
      have HBwr : Hid (Below w.heap.size w wr) := HB4.out.trans (HBr.out.mono HB4.out.size)
      by_cases hlt : k < ol
      · have hi : (k : Int) < (ol : Int) := by omega
        obtain ⟨bA, offA, hAA, hbA, hq0, hq1⟩ := OL.at_ (HL.out.below HBwr.out) k hlt
        subst hAA
        obtain ⟨x, hx⟩ : ∃ x, (os.getD k ob0).1 = x := ⟨_, rfl⟩
        obtain ⟨S, hS⟩ : ∃ S, (os.getD k ob0).2 = S := ⟨_, rfl⟩
        have hmem : os.getD k ob0 ∈ os := by rw [List.getD_eq_getElem?_getD, List.getElem?_eq_getElem (by rw [HLE.out]; exact hlt)]; exact List.getElem_mem _
        have hpair : os.getD k ob0 = (x, S) := by rw [← hx, ← hS]
        rw [hpair] at hmem
        have hx0 : 0 ≤ x := (HID.out _ hmem).1
        have hx1 : x ≤ 255 := (HID.out _ hmem).2
        have hs1 : S.size ≤ 255 := HSS.out _ hmem
        have hus := used_take os k (by rw [HLE.out]; exact hlt)
        rw [hpair] at hus
        have htk : os.take (k + 1) = os.take k ++ [(x, S)] := by
          rw [List.take_succ_eq_append_getElem (by rw [HLE.out]; exact hlt), ← hpair]
          simp [List.getD_eq_getElem?_getD, show k < os.length by rw [HLE.out]; exact hlt]
        rw [hx] at hq0
        rw [hS] at hq1
        have wx : IntKind.u8.wrap x = x := IntWalk.u8_in _ (by omega)
        have ws : IntKind.u8.wrap (S.size : Int) = S.size := IntWalk.u8_in _ (by omega)
        have hm1 : m + 2 + S.size ≤ 1000 := by
          have h1 := HMm.out
          have h2 := HU.out
          have h3 := used_le os (k + 1)
          have h4 : (x, S).2.size = S.size := rfl
          omega
        have HUS := Lib.hid hus
        have HTK := Lib.hid htk
        clear hx hS hpair hmem hus htk
        go_wp2
        obtain ⟨w2, hw2⟩ : ∃ w2, wr.alloc (.cells #[.int .i64 x, .string S] 77) = w2 := ⟨_, rfl⟩
        have hb2 : Below wr.heap.size wr w2 := by rw [← hw2]; exact (Below.refl _ _).alloc (Nat.le_refl _) _
        have hX2 : WholeV w2 wr.heap.size 77 [.int .i64 x, .string S] := by rw [← hw2]; exact heap_alloc_new wr _
        have HX2 := Lib.hid hX2
        have hq20 := hX2.cell 0
        have hq21 := hX2.cell 1
        simp only [List.getElem?_cons_succ, List.getElem?_cons_zero] at hq20 hq21
        have hlt2 : wr.heap.size < w2.heap.size := hX2.lt
        have HO2 := Lib.hid (own_keep HOr.out hb2)
        have HB2 := Lib.hid (HBr.out.trans (hb2.mono HBr.out.size))
        have HNE : Hid (∀ b, wr.heap.size ≤ b → some b ≠ (Value.slice B m d).ownBlock) := Lib.hid (fun b hb => own1_far HOr.out _ hb)
        rw [hw2]
        clear hw2 hb2 hX2
        obtain ⟨X1, hX1⟩ : ∃ X1, (w2.alloc (.cells #[.int .u8 x, .int .u8 (S.size : Int)] 5)).drew = X1 := ⟨_, rfl⟩
        have BA : Hid (Below w2.heap.size w2 X1) := by rw [← hX1]; exact ((Below.refl _ _).alloc (Nat.le_refl _) _).drew
        have RA : Hid (RowV X1 X1.heap.size (some ⟨w2.heap.size, 0, none⟩) 2 [.int .u8 x, .int .u8 (S.size : Int)]) := by rw [← hX1]; exact built_row w2 _ [.int .u8 x, .int .u8 (S.size : Int)] _ (Below.refl _ _).drew
        have OA := Lib.hid (own_keep HO2.out BA.out)
        have XA := Lib.hid (HX2.out.below BA.out HX2.out.lt)
        have KA := Lib.hid (HB2.out.trans (BA.out.mono HB2.out.size))
        have hxa0 := XA.out.cell 0
        have hxa1 := XA.out.cell 1
        simp only [List.getElem?_cons_succ, List.getElem?_cons_zero] at hxa0 hxa1
        go_region_law (first
          | (refine step_append_at (.tmp 135) (.tmp 143) 33 w4.heap.size 5 (.int .u8 0) 1 Try.underlying33 info5 rfl (.slice B m d) m (([43, 14, co, le, 0, nx, (ol : Int)] ++ flatO (os.take k)).map (Value.int .u8)) 2 [.int .u8 x, .int .u8 (S.size : Int)] (m + 2) (([43, 14, co, le, 0, nx, (ol : Int)] ++ flatO (os.take k) ++ [x, (S.size : Int)]).map (Value.int .u8)) rfl (by simp) (by intro u hu; simp at hu; rcases hu with rfl | rfl <;> rfl) (by omega) (by omega) ⟨rfl, rfl, (by first | rfl | (simp [eval_put_tmp, size_put]; done) | (simp [eval_put_tmp, size_put]; simp [Act.eval]; done) | (simp [Act.eval]; done))⟩ OA.out ⟨some ⟨w2.heap.size, 0, none⟩, 2, (by first | rfl | (simp [eval_put_tmp, size_put]; done) | (simp [eval_put_tmp, size_put]; simp [Act.eval]; done) | (simp [Act.eval]; done)), RA.out⟩ KA.out.size ?_
             intro A6 c6 w6 hown hg hat
             have hX6 : WholeV w6 wr.heap.size 77 [.int .i64 x, .string S] := (hg.block wr.heap.size XA.out.lt (HNE.out _ (Nat.le_refl _))).trans XA.out
             have hr0 := hX6.cell 0
             have hr1 := hX6.cell 1
             simp only [List.getElem?_cons_succ, List.getElem?_cons_zero] at hr0 hr1
             have HO6 := Lib.hid hown
             have HB6 := Lib.hid (below_append KA.out OA.out hg KA.out.size)
             clear hown hg hat hX6)
          | (refine step_append_str (.tmp 144) (.tmp 146) 33 9 w4.heap.size 5 Try.underlying33 Try.underlying9 info5 (.slice A6 (m + 2) c6) (m + 2) _ S (m + 2 + S.size) _ rfl rfl (by omega) ⟨rfl, rfl, (by first | rfl | (simp [eval_put_tmp, size_put]; done) | (simp [eval_put_tmp, size_put]; simp [Act.eval]; done) | (simp [Act.eval]; done))⟩ HO6.out (by first | rfl | (simp [eval_put_tmp, size_put]; done) | (simp [eval_put_tmp, size_put]; simp [Act.eval]; done) | (simp [Act.eval]; done)) HB6.out.size ?_
             intro A8 c8 w8 hown8 hg8
             have HO8 := Lib.hid hown8
             have HB8 := Lib.hid (below_append HB6.out HO6.out hg8 HB6.out.size)
             clear hown8 hg8))
        all_goals
          go_wp2
          go_roundw
          case rel =>
            refine ⟨k + 1, m + 2 + S.size, A8, c8, by omega, by go_num, rfl, ?_, ?_, HB8⟩
            · have h1 := HMm.out
              have h2 := HUS.out
              have h4 : (x, S).2.size = S.size := rfl
              show _ = _
              omega
            · have h := HO8.out
              rw [← List.map_append] at h
              show World.ownsRow _ _ _ _ _ _ _
              rw [HTK.out, flatO_snoc]
              simpa using h
          case measure => simp [intOf]; omega
      · obtain rfl : ol = k := by omega
        have hi2 : decide (ol < ol) = false := by simp
        go_wp2
        go_ret2
        refine ⟨m, B, d, rfl, ?_, ?_, HBwr.out⟩
        · have h1 := HMm.out
          rwa [List.take_of_length_le (by rw [HLE.out]; omega)] at h1
        · have h := (own_row HOr.out).ints
          rw [List.take_of_length_le (by rw [HLE.out]; omega)] at h
          simpa using h
  · obtain rfl : (255 : Int) = mb := HM.out
    clear hmb HM
    go_enter Try.func16, Try.ntmps16
    go_wp2_with (first
    | (go_at_call 18
       refine (CB.out _ ((Below.refl _ _).alloc (Nat.le_refl _) _)).mono ?_
       rintro e w4 ⟨rfl, hb4⟩
       have HB4 : Hid (Below w.heap.size w w4) := ((Below.refl _ _).alloc (Nat.le_refl _) _).trans (hb4.mono (by simp))
       have HX4 := Lib.hid (box14 _ _ _ _ _ _ _ _ _ _ _ _ _ _ _ w w4 (by first | exact hb4 | simpa using hb4))
       obtain ⟨hc0, hc1, hc2, hc3, hc4, hc5, hc6, hc7, hc8, hc9, hc10, hc11, hc12, hc13⟩ := cells14 HX4.out
       have hz4 : w.heap.size < w4.heap.size := HX4.out.lt
       clear hb4))
    obtain ⟨C, hC⟩ : ∃ C, (Question.appendCap 7 1 5).cut (w4.tape w4.drawn (Question.appendCap 7 1 5)) = C := ⟨_, rfl⟩
    have hC1 : 7 ≤ C := by rw [← hC]; exact grownCap_ge w4 7 1 5
    have hC2 : C ≤ maxLen := by rw [← hC]; exact grownCap_le_maxLen w4 7 1 5 (by unfold maxLen; omega)
    rw [hC]
    have h7 := row7 ((w4.alloc (.cells #[.int .u8 43] 5)).alloc (.cells #[.int .u8 14, .int .u8 co, .int .u8 le, .int .u8 255, .int .u8 nx, .int .u8 (ol : Int)] 5)) (.int .u8 43) (.int .u8 14) (.int .u8 co) (.int .u8 le) (.int .u8 255) (.int .u8 nx) (.int .u8 (ol : Int)) C w4.heap.size (w4.heap.size + 1 + 1) (by simp) (by omega) hC1 hC2
    have hb7 : Below w4.heap.size w4 (((w4.alloc (.cells #[.int .u8 43] 5)).alloc (.cells #[.int .u8 14, .int .u8 co, .int .u8 le, .int .u8 255, .int .u8 nx, .int .u8 (ol : Int)] 5)).alloc (.cells (#[.int .u8 43] ++ (#[.int .u8 14, .int .u8 co, .int .u8 le, .int .u8 255, .int .u8 nx, .int .u8 (ol : Int)] ++ Builtin.zeroCells #[.int .u8 0] (C - 7))) 5)).drew := ((((Below.refl _ _).alloc (Nat.le_refl _) _).alloc (by simp) _).alloc (by simp; omega) _).drew
    obtain ⟨w7, hw7⟩ : ∃ w7, (((w4.alloc (.cells #[.int .u8 43] 5)).alloc (.cells #[.int .u8 14, .int .u8 co, .int .u8 le, .int .u8 255, .int .u8 nx, .int .u8 (ol : Int)] 5)).alloc (.cells (#[.int .u8 43] ++ (#[.int .u8 14, .int .u8 co, .int .u8 le, .int .u8 255, .int .u8 nx, .int .u8 (ol : Int)] ++ Builtin.zeroCells #[.int .u8 0] (C - 7))) 5)).drew = w7 := ⟨_, rfl⟩
    rw [hw7] at h7 hb7
    rw [hw7]
    have HO7 := Lib.hid h7
    have HB7 := Lib.hid hb7
    clear h7 hb7 hw7 hC hC1 hC2 hc0 hc1 hc2 hc3 hc4 hc5 hc6 hc7 hc8 hc9 hc10 hc11 hc12 hc13
    go_loopw [4, 7] (fun b i wr => ∃ (k m : Nat) (B : Option Addr) (d : Nat), k ≤ ol ∧ i = .int .i64 (k : Int) ∧ b = .slice B m d ∧ Hid (m = 7 + used (os.take k)) ∧ Hid (wr.ownsRow w4.heap.size 5 1 (.slice B m d) m (([43, 14, co, le, 255, nx, (ol : Int)] ++ flatO (os.take k)).map (Value.int .u8))) ∧ Hid (Below w4.heap.size w4 wr)) (fun _ i _ => ol - (intOf i).toNat)
    case atStart => exact ⟨0, 7, some ⟨w4.heap.size + 1 + 1, 0, none⟩, C, by omega, rfl, rfl, Lib.hid (by simp [used]), Lib.hid (by simpa [flatO] using HO7.out), HB7⟩
    case round =>
      obtain ⟨k, m, B, d, hk, rfl, rfl, HMm, HOr, HBr⟩ := hrel
      have hx13 : wr.cell? ⟨w.heap.size, 13, none⟩ = some (.slice OA ol oc) := (HBr.out.cell (p := ⟨w.heap.size, 13, none⟩) hz4).trans (HX4.out.cell 13)
      have HBwr : Hid (Below w.heap.size w wr) := HB4.out.trans (HBr.out.mono HB4.out.size)
      by_cases hlt : k < ol
      · have hi : (k : Int) < (ol : Int) := by omega
        obtain ⟨bA, offA, hAA, hbA, hq0, hq1⟩ := OL.at_ (HL.out.below HBwr.out) k hlt
        subst hAA
        obtain ⟨x, hx⟩ : ∃ x, (os.getD k ob0).1 = x := ⟨_, rfl⟩
        obtain ⟨S, hS⟩ : ∃ S, (os.getD k ob0).2 = S := ⟨_, rfl⟩
        have hmem : os.getD k ob0 ∈ os := by rw [List.getD_eq_getElem?_getD, List.getElem?_eq_getElem (by rw [HLE.out]; exact hlt)]; exact List.getElem_mem _
        have hpair : os.getD k ob0 = (x, S) := by rw [← hx, ← hS]
        rw [hpair] at hmem
        have hx0 : 0 ≤ x := (HID.out _ hmem).1
        have hx1 : x ≤ 255 := (HID.out _ hmem).2
        have hs1 : S.size ≤ 255 := HSS.out _ hmem
        have hus := used_take os k (by rw [HLE.out]; exact hlt)
        rw [hpair] at hus
        have htk : os.take (k + 1) = os.take k ++ [(x, S)] := by
          rw [List.take_succ_eq_append_getElem (by rw [HLE.out]; exact hlt), ← hpair]
          simp [List.getD_eq_getElem?_getD, show k < os.length by rw [HLE.out]; exact hlt]
        rw [hx] at hq0
        rw [hS] at hq1
        have wx : IntKind.u8.wrap x = x := IntWalk.u8_in _ (by omega)
        have ws : IntKind.u8.wrap (S.size : Int) = S.size := IntWalk.u8_in _ (by omega)
        have hm1 : m + 2 + S.size ≤ 1000 := by
          have h1 := HMm.out
          have h2 := HU.out
          have h3 := used_le os (k + 1)
          have h4 : (x, S).2.size = S.size := rfl
          omega
        have HUS := Lib.hid hus
        have HTK := Lib.hid htk
        clear hx hS hpair hmem hus htk
        go_wp2
        obtain ⟨w2, hw2⟩ : ∃ w2, wr.alloc (.cells #[.int .i64 x, .string S] 77) = w2 := ⟨_, rfl⟩
        have hb2 : Below wr.heap.size wr w2 := by rw [← hw2]; exact (Below.refl _ _).alloc (Nat.le_refl _) _
        have hX2 : WholeV w2 wr.heap.size 77 [.int .i64 x, .string S] := by rw [← hw2]; exact heap_alloc_new wr _
        have HX2 := Lib.hid hX2
        have hq20 := hX2.cell 0
        have hq21 := hX2.cell 1
        simp only [List.getElem?_cons_succ, List.getElem?_cons_zero] at hq20 hq21
        have hlt2 : wr.heap.size < w2.heap.size := hX2.lt
        have HO2 := Lib.hid (own_keep HOr.out hb2)
        have HB2 := Lib.hid (HBr.out.trans (hb2.mono HBr.out.size))
        have HNE : Hid (∀ b, wr.heap.size ≤ b → some b ≠ (Value.slice B m d).ownBlock) := Lib.hid (fun b hb => own1_far HOr.out _ hb)
        rw [hw2]
        clear hw2 hb2 hX2
        obtain ⟨X1, hX1⟩ : ∃ X1, (w2.alloc (.cells #[.int .u8 x, .int .u8 (S.size : Int)] 5)).drew = X1 := ⟨_, rfl⟩
        have BA : Hid (Below w2.heap.size w2 X1) := by rw [← hX1]; exact ((Below.refl _ _).alloc (Nat.le_refl _) _).drew
        have RA : Hid (RowV X1 X1.heap.size (some ⟨w2.heap.size, 0, none⟩) 2 [.int .u8 x, .int .u8 (S.size : Int)]) := by rw [← hX1]; exact built_row w2 _ [.int .u8 x, .int .u8 (S.size : Int)] _ (Below.refl _ _).drew
        have OA := Lib.hid (own_keep HO2.out BA.out)
        have XA := Lib.hid (HX2.out.below BA.out HX2.out.lt)
        have KA := Lib.hid (HB2.out.trans (BA.out.mono HB2.out.size))
        have hxa0 := XA.out.cell 0
        have hxa1 := XA.out.cell 1
        simp only [List.getElem?_cons_succ, List.getElem?_cons_zero] at hxa0 hxa1
        go_region_law (first
          | (refine step_append_at (.tmp 135) (.tmp 143) 33 w4.heap.size 5 (.int .u8 0) 1 Try.underlying33 info5 rfl (.slice B m d) m (([43, 14, co, le, 255, nx, (ol : Int)] ++ flatO (os.take k)).map (Value.int .u8)) 2 [.int .u8 x, .int .u8 (S.size : Int)] (m + 2) (([43, 14, co, le, 255, nx, (ol : Int)] ++ flatO (os.take k) ++ [x, (S.size : Int)]).map (Value.int .u8)) rfl (by simp) (by intro u hu; simp at hu; rcases hu with rfl | rfl <;> rfl) (by omega) (by omega) ⟨rfl, rfl, (by first | rfl | (simp [eval_put_tmp, size_put]; done) | (simp [eval_put_tmp, size_put]; simp [Act.eval]; done) | (simp [Act.eval]; done))⟩ OA.out ⟨some ⟨w2.heap.size, 0, none⟩, 2, (by first | rfl | (simp [eval_put_tmp, size_put]; done) | (simp [eval_put_tmp, size_put]; simp [Act.eval]; done) | (simp [Act.eval]; done)), RA.out⟩ KA.out.size ?_
             intro A6 c6 w6 hown hg hat
             have hX6 : WholeV w6 wr.heap.size 77 [.int .i64 x, .string S] := (hg.block wr.heap.size XA.out.lt (HNE.out _ (Nat.le_refl _))).trans XA.out
             have hr0 := hX6.cell 0
             have hr1 := hX6.cell 1
             simp only [List.getElem?_cons_succ, List.getElem?_cons_zero] at hr0 hr1
             have HO6 := Lib.hid hown
             have HB6 := Lib.hid (below_append KA.out OA.out hg KA.out.size)
             clear hown hg hat hX6)
          | (refine step_append_str (.tmp 144) (.tmp 146) 33 9 w4.heap.size 5 Try.underlying33 Try.underlying9 info5 (.slice A6 (m + 2) c6) (m + 2) _ S (m + 2 + S.size) _ rfl rfl (by omega) ⟨rfl, rfl, (by first | rfl | (simp [eval_put_tmp, size_put]; done) | (simp [eval_put_tmp, size_put]; simp [Act.eval]; done) | (simp [Act.eval]; done))⟩ HO6.out (by first | rfl | (simp [eval_put_tmp, size_put]; done) | (simp [eval_put_tmp, size_put]; simp [Act.eval]; done) | (simp [Act.eval]; done)) HB6.out.size ?_
             intro A8 c8 w8 hown8 hg8
             have HO8 := Lib.hid hown8
             have HB8 := Lib.hid (below_append HB6.out HO6.out hg8 HB6.out.size)
             clear hown8 hg8))
        all_goals
          go_wp2
          go_roundw
          case rel =>
            refine ⟨k + 1, m + 2 + S.size, A8, c8, by omega, by go_num, rfl, ?_, ?_, HB8⟩
            · have h1 := HMm.out
              have h2 := HUS.out
              have h4 : (x, S).2.size = S.size := rfl
              show _ = _
              omega
            · have h := HO8.out
              rw [← List.map_append] at h
              show World.ownsRow _ _ _ _ _ _ _
              rw [HTK.out, flatO_snoc]
              simpa using h
          case measure => simp [intOf]; omega
      · obtain rfl : ol = k := by omega
        have hi2 : decide (ol < ol) = false := by simp
        go_wp2
        go_ret2
        refine ⟨m, B, d, rfl, ?_, ?_, HBwr.out⟩
        · have h1 := HMm.out
          rwa [List.take_of_length_le (by rw [HLE.out]; omega)] at h1
        · have h := (own_row HOr.out).ints
          rw [List.take_of_length_le (by rw [HLE.out]; omega)] at h
          simpa using h

end Go.Proofs.Ytcmnhpogepahgaa

/- Package tell: Bytes of replies of 43. -/
import Derived.Test.YtoljpdamalcjeaaPBytesD
import Derived.Deep.RegionHeld3
namespace Go.Proofs.Ytoljpdamalcjeaa
open Go.ChangeShapes Go.WideShapes Go.ChangeAt Go.RowKit
set_option linter.unusedVariables false
set_option linter.unusedSimpArgs false

theorem used_ge (os : List Ob) : os.length ≤ used os := by
  induction os with
  | nil => simp
  | cons o os ih => rw [used_cons, List.length_cons]; omega
theorem used_mem (os : List Ob) (o : Ob) (h : o ∈ os) : 2 + o.2.size ≤ used os := by
  induction os with
  | nil => cases h
  | cons x os ih =>
    rw [used_cons]
    rcases List.mem_cons.1 h with rfl | h
    · omega
    · have := ih h; omega

set_option maxRecDepth 100000 in
set_option maxHeartbeats 1000000 in
theorem pmore_any (mo : Bool) (mb : Int) (co le nx : Int) (BA WA OA : Option Addr) (bc wc ol oc : Nat) (w : World) (hm : (if mo then 255 else 0) = mb) :
    Calls Try.prog 63 #[.agg #[.int .i64 43, .int .i64 0, .slice BA 0 bc, .slice WA 0 wc, .int .i64 0, .int .i64 0, .int .u16 0, .int .u16 0, .int .u16 0, .int .i64 co, .int .i64 le, .bool mo, .int .i64 nx, .slice OA ol oc]] w fun e w' => e = .returned (.int .u8 mb) ∧ Below w.heap.size w w' := by
  cases mo
  · obtain rfl : (0 : Int) = mb := hm
    go_enter Try.func63, Try.ntmps63
    go_wp2
    go_ret
    exact ⟨rfl, (Below.refl _ _).alloc (Nat.le_refl _) _⟩
  · obtain rfl : (255 : Int) = mb := hm
    go_enter Try.func63, Try.ntmps63
    go_wp2
    go_ret
    exact ⟨rfl, (Below.refl _ _).alloc (Nat.le_refl _) _⟩

set_option maxRecDepth 100000 in
set_option maxHeartbeats 4000000 in
theorem pbT_43 (co le nx : Int) (mo : Bool) (mb : Int) (os : List Ob) (BA WA OA : Option Addr) (bc wc ol oc : Nat) (w : World) (hm : (if mo then 255 else 0) = mb) (hl : OL w w.heap.size OA ol os) (hf : fitP os) (hc : 1 ≤ co ∧ co ≤ 4) (hle : 0 ≤ le ∧ le ≤ 255) (hnx : 0 ≤ nx ∧ nx ≤ 255) :
    Calls Try.prog 28 #[.agg #[.int .i64 43, .int .i64 0, .slice BA 0 bc, .slice WA 0 wc, .int .i64 0, .int .i64 0, .int .u16 0, .int .u16 0, .int .u16 0, .int .i64 co, .int .i64 le, .bool mo, .int .i64 nx, .slice OA ol oc]] w fun e w' => ∃ m C cc, e = .returned (.tuple #[.slice C m cc, .int .i64 0]) ∧ m = 7 + used os ∧ w'.ownsRow w.heap.size 5 1 (.slice C m cc) m (([43, 14, co, le, mb, nx, (ol : Int)] ++ flatO os).map (Value.int .u8)) ∧ Below w.heap.size w w' := by
  have hus := hf.2
  have hlen := hl.len
  have hol : ol ≤ 255 := by have := used_ge os; omega
  have hidb := hf.1
  have hszb : ∀ o ∈ os, o.2.size ≤ 255 := fun o ho => by have := used_mem os o ho; omega
  have hfit := fits_any OA ol oc os w true hl (by omega) (fun o ho => by have := hszb o ho; omega) (decide_eq_true hf)
  have HW : Hid (WideT 0 0 0 0 0 co le nx) := ⟨by omega, by omega, by omega, by omega, by omega, by omega, by omega, by omega, by omega, by omega, by omega, by omega, by omega, by omega, by omega, by omega⟩
  have HP : Hid (decide (tellP 43 0 0 0 0 0 0 0 0 co le mo.toNat nx ol true.toNat) = true) := by
    refine decide_eq_true (tell_nought.2 ⟨rfl, by omega, ?_, ?_⟩)
    · have h1 : true.toNat = 1 := rfl
      unfold rangT
      omega
    · unfold restT; omega
  have CM := Lib.hid (fun W => pmore_any mo mb co le nx BA WA OA bc wc ol oc W hm)
  have hmb : 0 ≤ mb ∧ mb ≤ 255 := by cases mo <;> simp at hm <;> omega
  have wc1 : IntKind.u8.wrap co = co := IntWalk.u8_in _ (by omega)
  have wc2 : IntKind.u8.wrap le = le := IntWalk.u8_in _ (by omega)
  have wc3 : IntKind.u8.wrap nx = nx := IntWalk.u8_in _ (by omega)
  have HL := Lib.hid hl
  have HF := Lib.hid hfit
  have HID := Lib.hid hidb
  have HSS := Lib.hid hszb
  clear hl hf hfit hidb hszb hm
  go_enter Try.func28, Try.ntmps28
  go_wp2_with fail
  refine (ptr_any 43 0 0 0 0 0 0 0 0 co le mo nx ol BA WA OA bc wc oc _ true true HW.out (HF.out.on ((Below.refl _ _).alloc (Nat.le_refl _) _)) HP.out).mono ?_
  rintro e w4 ⟨rfl, hb4⟩
  have HB4 : Hid (Below w.heap.size w w4) := ((Below.refl _ _).alloc (Nat.le_refl _) _).trans (hb4.mono (by simp))
  have hk4 : Below (w.heap.size + 1) (w.alloc (.cells #[.int .i64 43, .int .i64 0, .slice BA 0 bc, .slice WA 0 wc, .int .i64 0, .int .i64 0, .int .u16 0, .int .u16 0, .int .u16 0, .int .i64 co, .int .i64 le, .bool mo, .int .i64 nx, .slice OA ol oc] 53)) w4 := by
    rwa [show (w.alloc (.cells #[.int .i64 43, .int .i64 0, .slice BA 0 bc, .slice WA 0 wc, .int .i64 0, .int .i64 0, .int .u16 0, .int .u16 0, .int .u16 0, .int .i64 co, .int .i64 le, .bool mo, .int .i64 nx, .slice OA ol oc] 53)).heap.size = w.heap.size + 1 by simp] at hb4
  have hbx := box14 _ _ _ _ _ _ _ _ _ _ _ _ _ _ _ w w4 hk4
  have hz4 : w.heap.size < w4.heap.size := hbx.lt
  have KS : Hid (∀ W, Below w4.heap.size w4 W → W.cell? ⟨w.heap.size, 0, none⟩ = some (.int .i64 43) ∧ W.cell? ⟨w.heap.size, 1, none⟩ = some (.int .i64 0) ∧ W.cell? ⟨w.heap.size, 2, none⟩ = some (.slice BA 0 bc) ∧ W.cell? ⟨w.heap.size, 3, none⟩ = some (.slice WA 0 wc) ∧ W.cell? ⟨w.heap.size, 4, none⟩ = some (.int .i64 0) ∧ W.cell? ⟨w.heap.size, 5, none⟩ = some (.int .i64 0) ∧ W.cell? ⟨w.heap.size, 6, none⟩ = some (.int .u16 0) ∧ W.cell? ⟨w.heap.size, 7, none⟩ = some (.int .u16 0) ∧ W.cell? ⟨w.heap.size, 8, none⟩ = some (.int .u16 0) ∧ W.cell? ⟨w.heap.size, 9, none⟩ = some (.int .i64 co) ∧ W.cell? ⟨w.heap.size, 10, none⟩ = some (.int .i64 le) ∧ W.cell? ⟨w.heap.size, 11, none⟩ = some (.bool mo) ∧ W.cell? ⟨w.heap.size, 12, none⟩ = some (.int .i64 nx) ∧ W.cell? ⟨w.heap.size, 13, none⟩ = some (.slice OA ol oc) ∧ Below w4.heap.size w4 W) := by
    intro W hW
    obtain ⟨hc0, hc1, hc2, hc3, hc4, hc5, hc6, hc7, hc8, hc9, hc10, hc11, hc12, hc13⟩ := cells14 (hbx.below hW hz4)
    exact ⟨hc0, hc1, hc2, hc3, hc4, hc5, hc6, hc7, hc8, hc9, hc10, hc11, hc12, hc13, hW⟩
  obtain ⟨hc0, hc1, hc2, hc3, hc4, hc5, hc6, hc7, hc8, hc9, hc10, hc11, hc12, hc13⟩ := cells14 hbx
  have HL4 := Lib.hid (HL.out.below HB4.out)
  clear hb4 hk4 hbx
  have KB : Hid (∀ W, (W.cell? ⟨w.heap.size, 0, none⟩ = some (.int .i64 43) ∧ W.cell? ⟨w.heap.size, 1, none⟩ = some (.int .i64 0) ∧ W.cell? ⟨w.heap.size, 2, none⟩ = some (.slice BA 0 bc) ∧ W.cell? ⟨w.heap.size, 3, none⟩ = some (.slice WA 0 wc) ∧ W.cell? ⟨w.heap.size, 4, none⟩ = some (.int .i64 0) ∧ W.cell? ⟨w.heap.size, 5, none⟩ = some (.int .i64 0) ∧ W.cell? ⟨w.heap.size, 6, none⟩ = some (.int .u16 0) ∧ W.cell? ⟨w.heap.size, 7, none⟩ = some (.int .u16 0) ∧ W.cell? ⟨w.heap.size, 8, none⟩ = some (.int .u16 0) ∧ W.cell? ⟨w.heap.size, 9, none⟩ = some (.int .i64 co) ∧ W.cell? ⟨w.heap.size, 10, none⟩ = some (.int .i64 le) ∧ W.cell? ⟨w.heap.size, 11, none⟩ = some (.bool mo) ∧ W.cell? ⟨w.heap.size, 12, none⟩ = some (.int .i64 nx) ∧ W.cell? ⟨w.heap.size, 13, none⟩ = some (.slice OA ol oc) ∧ Below w4.heap.size w4 W) → Below w4.heap.size w4 W) := fun W h => h.2.2.2.2.2.2.2.2.2.2.2.2.2.2
  have KT : Hid (∀ W W', (W.cell? ⟨w.heap.size, 0, none⟩ = some (.int .i64 43) ∧ W.cell? ⟨w.heap.size, 1, none⟩ = some (.int .i64 0) ∧ W.cell? ⟨w.heap.size, 2, none⟩ = some (.slice BA 0 bc) ∧ W.cell? ⟨w.heap.size, 3, none⟩ = some (.slice WA 0 wc) ∧ W.cell? ⟨w.heap.size, 4, none⟩ = some (.int .i64 0) ∧ W.cell? ⟨w.heap.size, 5, none⟩ = some (.int .i64 0) ∧ W.cell? ⟨w.heap.size, 6, none⟩ = some (.int .u16 0) ∧ W.cell? ⟨w.heap.size, 7, none⟩ = some (.int .u16 0) ∧ W.cell? ⟨w.heap.size, 8, none⟩ = some (.int .u16 0) ∧ W.cell? ⟨w.heap.size, 9, none⟩ = some (.int .i64 co) ∧ W.cell? ⟨w.heap.size, 10, none⟩ = some (.int .i64 le) ∧ W.cell? ⟨w.heap.size, 11, none⟩ = some (.bool mo) ∧ W.cell? ⟨w.heap.size, 12, none⟩ = some (.int .i64 nx) ∧ W.cell? ⟨w.heap.size, 13, none⟩ = some (.slice OA ol oc) ∧ Below w4.heap.size w4 W) → Below W.heap.size W W' → W'.cell? ⟨w.heap.size, 0, none⟩ = some (.int .i64 43) ∧ W'.cell? ⟨w.heap.size, 1, none⟩ = some (.int .i64 0) ∧ W'.cell? ⟨w.heap.size, 2, none⟩ = some (.slice BA 0 bc) ∧ W'.cell? ⟨w.heap.size, 3, none⟩ = some (.slice WA 0 wc) ∧ W'.cell? ⟨w.heap.size, 4, none⟩ = some (.int .i64 0) ∧ W'.cell? ⟨w.heap.size, 5, none⟩ = some (.int .i64 0) ∧ W'.cell? ⟨w.heap.size, 6, none⟩ = some (.int .u16 0) ∧ W'.cell? ⟨w.heap.size, 7, none⟩ = some (.int .u16 0) ∧ W'.cell? ⟨w.heap.size, 8, none⟩ = some (.int .u16 0) ∧ W'.cell? ⟨w.heap.size, 9, none⟩ = some (.int .i64 co) ∧ W'.cell? ⟨w.heap.size, 10, none⟩ = some (.int .i64 le) ∧ W'.cell? ⟨w.heap.size, 11, none⟩ = some (.bool mo) ∧ W'.cell? ⟨w.heap.size, 12, none⟩ = some (.int .i64 nx) ∧ W'.cell? ⟨w.heap.size, 13, none⟩ = some (.slice OA ol oc) ∧ Below w4.heap.size w4 W') := fun W W' h hb => KS.out _ ((KB.out _ h).trans (hb.mono (KB.out _ h).size))
  go_wp2_with fail
  obtain ⟨w5, hw5⟩ : ∃ w5, w4.alloc (.cells #[.int .u8 43] 5) = w5 := ⟨_, rfl⟩
  have HB5 : Hid (Below w4.heap.size w4 w5) := by rw [← hw5]; exact (Below.refl _ _).alloc (Nat.le_refl _) _
  have HO5 : Hid (w5.ownsRow w4.heap.size 5 1 (.slice (some ⟨w4.heap.size, 0, none⟩) 1 1) 1 [.int .u8 43]) := by
    rw [← hw5]
    exact own_of_whole (show WholeV _ w4.heap.size 5 [.int .u8 43] from heap_alloc_new w4 _) (Nat.le_refl _) rfl (by decide)
  rw [hw5]
  clear hw5 hc0 hc1 hc2 hc3 hc4 hc5 hc6 hc7 hc8 hc9 hc10 hc11 hc12 hc13
  go_region_held3 (fun W => W.cell? ⟨w.heap.size, 0, none⟩ = some (.int .i64 43) ∧ W.cell? ⟨w.heap.size, 1, none⟩ = some (.int .i64 0) ∧ W.cell? ⟨w.heap.size, 2, none⟩ = some (.slice BA 0 bc) ∧ W.cell? ⟨w.heap.size, 3, none⟩ = some (.slice WA 0 wc) ∧ W.cell? ⟨w.heap.size, 4, none⟩ = some (.int .i64 0) ∧ W.cell? ⟨w.heap.size, 5, none⟩ = some (.int .i64 0) ∧ W.cell? ⟨w.heap.size, 6, none⟩ = some (.int .u16 0) ∧ W.cell? ⟨w.heap.size, 7, none⟩ = some (.int .u16 0) ∧ W.cell? ⟨w.heap.size, 8, none⟩ = some (.int .u16 0) ∧ W.cell? ⟨w.heap.size, 9, none⟩ = some (.int .i64 co) ∧ W.cell? ⟨w.heap.size, 10, none⟩ = some (.int .i64 le) ∧ W.cell? ⟨w.heap.size, 11, none⟩ = some (.bool mo) ∧ W.cell? ⟨w.heap.size, 12, none⟩ = some (.int .i64 nx) ∧ W.cell? ⟨w.heap.size, 13, none⟩ = some (.slice OA ol oc) ∧ Below w4.heap.size w4 W)
    (first
      | exact KS.out _ HB5.out
      | exact KS.out _ HB5.out.drew
      | exact KT.out _ _ (by assumption) hb6
      | exact KT.out _ _ (by assumption) ((Below.refl _ _).alloc (Nat.le_refl _) _)
      | exact KS.out _ hb8
      | exact KS.out _ hb9)
    (first
      | (refine step_append_at (.tmp 83) (.tmp 95) 22 w4.heap.size 5 (.int .u8 0) 1 Try.underlying22 info5 rfl (.slice (some ⟨w4.heap.size, 0, none⟩) 1 1) 1 [.int .u8 43] 5 [.int .u8 14, .int .u8 co, .int .u8 le, .int .u8 mb, .int .u8 nx] 6 ([43, 14, co, le, mb, nx].map (Value.int .u8)) rfl rfl (by simp [Value.oneCell']) (by omega) (by omega) ?_ ?_ ?_ ?_ ?_
         · exact ⟨rfl, rfl, rfl⟩
         · first | exact ho6.alloc _ | exact ho6
         · first
             | exact ⟨_, _, rfl, built_row _ _ [.int .u8 14, .int .u8 co, .int .u8 le, .int .u8 mb, .int .u8 nx] _ (Below.refl _ _)⟩
             | exact ⟨_, _, rfl, built_row _ _ [.int .u8 14, .int .u8 co, .int .u8 le, .int .u8 mb, .int .u8 nx] _ (Below.refl _ _).drew⟩
         · exact (KB.out _ (by assumption)).size
         intro A8 c8 w8 ho8 hg8 hat8
         have hb8 : Below w4.heap.size w4 w8 := by first | exact below_append (KB.out _ (by assumption)) (ho6.alloc _) hg8 (KB.out _ (by assumption)).size | exact below_append (KB.out _ (by assumption)) ho6 hg8 (KB.out _ (by assumption)).size)
      | (go_at_call 63
         (with_reducible refine (CM.out _).mono ?_)
         rintro e w6 ⟨rfl, hb6⟩
         have ho6 : w6.ownsRow w4.heap.size 5 1 (.slice (some ⟨w4.heap.size, 0, none⟩) 1 1) 1 [.int .u8 43] := by first | exact own_keep HO5.out hb6 | exact own_keep HO5.out (below_from (d := 1) hb6))
      | (go_at_call 62
         refine (putobjs_any w4.heap.size A8 6 c8 [43, 14, co, le, mb, nx] OA ol oc os _ ho8 (RowV.below HL4.out (KB.out _ (by assumption))) (KB.out _ (by assumption)).size HID.out HSS.out hol (by omega)).mono ?_
         rintro e w9 ⟨m9, C9, cc9, rfl, hm9, ho9, hb9'⟩
         have hb9 : Below w4.heap.size w4 w9 := (KB.out _ (by assumption)).trans hb9'))
  all_goals
    go_wp2
    go_ret2
    have hm8 : m9 = 7 + used os := by omega
    rw [hm8] at ho9
    have hu8 : ([43, 14, co, le, mb, nx] ++ [(ol : Int)] ++ flatO os) = [43, 14, co, le, mb, nx, (ol : Int)] ++ flatO os := rfl
    rw [hu8] at ho9
    exact ⟨7 + used os, C9, cc9, rfl, rfl, own_mono ho9 (Nat.le_of_lt hz4), HB4.out.trans (hb9.mono (Nat.le_of_lt hz4))⟩

end Go.Proofs.Ytoljpdamalcjeaa

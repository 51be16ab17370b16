/- Package iden: filled. -/
import Derived.Test.YtoljpdamalcjeaaIden5
import Derived.Test.YtoljpdamalcjeaaPBox14
namespace Go.Proofs.Ytoljpdamalcjeaa
open Go.ChangeShapes Go.WideShapes Go.ChangeAt Go.RowKit
set_option linter.unusedVariables false
set_option linter.unusedSimpArgs false

theorem own14 {w : World} {base g : Nat} {e : TypeId} {v : Value} {n : Nat} {xs : List Value} (h : w.ownsRow base e 2 v n xs) (hg : g < base) (b0 b1 b2 b3 b4 b5 b6 b7 b8 b9 b10 b11 b12 b13 : Value) : ((((((((((((((w.setCell ⟨g, 0, none⟩ (b0)).setCell ⟨g, 1, none⟩ (b1)).setCell ⟨g, 2, none⟩ (b2)).setCell ⟨g, 3, none⟩ (b3)).setCell ⟨g, 4, none⟩ (b4)).setCell ⟨g, 5, none⟩ (b5)).setCell ⟨g, 6, none⟩ (b6)).setCell ⟨g, 7, none⟩ (b7)).setCell ⟨g, 8, none⟩ (b8)).setCell ⟨g, 9, none⟩ (b9)).setCell ⟨g, 10, none⟩ (b10)).setCell ⟨g, 11, none⟩ (b11)).setCell ⟨g, 12, none⟩ (b12)).setCell ⟨g, 13, none⟩ (b13)).ownsRow base e 2 v n xs :=
  (ownsRow_setCell_below (ownsRow_setCell_below (ownsRow_setCell_below (ownsRow_setCell_below (ownsRow_setCell_below (ownsRow_setCell_below (ownsRow_setCell_below (ownsRow_setCell_below (ownsRow_setCell_below (ownsRow_setCell_below (ownsRow_setCell_below (ownsRow_setCell_below (ownsRow_setCell_below (ownsRow_setCell_below h (a := ⟨g, 0, none⟩) hg b0) (a := ⟨g, 1, none⟩) hg b1) (a := ⟨g, 2, none⟩) hg b2) (a := ⟨g, 3, none⟩) hg b3) (a := ⟨g, 4, none⟩) hg b4) (a := ⟨g, 5, none⟩) hg b5) (a := ⟨g, 6, none⟩) hg b6) (a := ⟨g, 7, none⟩) hg b7) (a := ⟨g, 8, none⟩) hg b8) (a := ⟨g, 9, none⟩) hg b9) (a := ⟨g, 10, none⟩) hg b10) (a := ⟨g, 11, none⟩) hg b11) (a := ⟨g, 12, none⟩) hg b12) (a := ⟨g, 13, none⟩) hg b13)
theorem belg14 {B g : Nat} {a w : World} (h : Below B a w) (hg : B ≤ g) (b0 b1 b2 b3 b4 b5 b6 b7 b8 b9 b10 b11 b12 b13 : Value) : Below B a ((((((((((((((w.setCell ⟨g, 0, none⟩ (b0)).setCell ⟨g, 1, none⟩ (b1)).setCell ⟨g, 2, none⟩ (b2)).setCell ⟨g, 3, none⟩ (b3)).setCell ⟨g, 4, none⟩ (b4)).setCell ⟨g, 5, none⟩ (b5)).setCell ⟨g, 6, none⟩ (b6)).setCell ⟨g, 7, none⟩ (b7)).setCell ⟨g, 8, none⟩ (b8)).setCell ⟨g, 9, none⟩ (b9)).setCell ⟨g, 10, none⟩ (b10)).setCell ⟨g, 11, none⟩ (b11)).setCell ⟨g, 12, none⟩ (b12)).setCell ⟨g, 13, none⟩ (b13)) :=
  ((((((((((((((h.setCell (p := ⟨g, 0, none⟩) hg b0).setCell (p := ⟨g, 1, none⟩) hg b1).setCell (p := ⟨g, 2, none⟩) hg b2).setCell (p := ⟨g, 3, none⟩) hg b3).setCell (p := ⟨g, 4, none⟩) hg b4).setCell (p := ⟨g, 5, none⟩) hg b5).setCell (p := ⟨g, 6, none⟩) hg b6).setCell (p := ⟨g, 7, none⟩) hg b7).setCell (p := ⟨g, 8, none⟩) hg b8).setCell (p := ⟨g, 9, none⟩) hg b9).setCell (p := ⟨g, 10, none⟩) hg b10).setCell (p := ⟨g, 11, none⟩) hg b11).setCell (p := ⟨g, 12, none⟩) hg b12).setCell (p := ⟨g, 13, none⟩) hg b13)

set_option maxRecDepth 100000 in
set_option maxHeartbeats 4000000 in
theorem ifilled_more (co le : Int) (A : Option Addr) (n c : Nat) (os : List Ob) (w : World) (c1 : 1 ≤ co) (c4 : co ≤ 4) (l0 : 0 ≤ le) (l1 : le ≤ 255) (hl : OL w w.heap.size A n os) (hn : n ≤ 100000) (hc : n ≤ c) (hz : ∀ o ∈ os, o.2.size ≤ 1000000) (hmore : roomOf os < n) :
    Calls Try.prog 91 #[.agg #[.int .i64 43, .int .i64 0, .slice none 0 0, .slice none 0 0, .int .i64 0, .int .i64 0, .int .u16 0, .int .u16 0, .int .u16 0, .int .i64 co, .int .i64 le, .bool false, .int .i64 0, .slice none 0 0], .slice A n c] w fun e w' => ∃ B d, e = .returned (.agg #[.int .i64 43, .int .i64 0, .slice none 0 0, .slice none 0 0, .int .i64 0, .int .i64 0, .int .u16 0, .int .u16 0, .int .u16 0, .int .i64 co, .int .i64 le, .bool (moreOf os), .int .i64 (nextOf os), .slice B (roomOf os) d]) ∧ w'.ownsRow w.heap.size 98 2 (.slice B (roomOf os) d) (roomOf os) (obs (os.take (roomOf os))) ∧ Below w.heap.size w w' := by
  have HL := Lib.hid hl
  have C := Lib.hid (fun W hW => iroom_of co le A n c os W c1 c4 l0 l1 hW hn hc hz)
  have hlen := hl.len
  have hle := roomG_le 246 os
  change roomOf os ≤ _ at hle
  have hmo : moreOf os = true := by unfold moreOf; rw [hlen]; exact decide_eq_true hmore
  have hnx : nextOf os = (os.getD (roomOf os) ob0).1 := by unfold nextOf; rw [hlen, if_pos hmore]
  rw [hmo, hnx]
  obtain ⟨m, hm⟩ : ∃ m, roomOf os = m := ⟨_, rfl⟩
  rw [hm] at C hle hmore ⊢
  have hlt := hmore
  obtain ⟨x, hx⟩ : ∃ x, (os.getD m ob0).1 = x := ⟨_, rfl⟩
  have HX := Lib.hid hx
  rw [hx]
  have hlt2 : (m : Int) < (n : Int) := by omega
  clear hl hmo hnx hm hx hz hmore
  · go_enter Try.func91, Try.ntmps91
    go_wp2_with (first
      | (go_at_call 125
         refine (C.out _ (HL.out.below (((Below.refl _ _).alloc (Nat.le_refl _) _).alloc (by simp) _))).mono ?_
         rintro e w4 ⟨rfl, hb4⟩
         have hb5 : Below (w.heap.size + 2) ((w.alloc (.cells #[.int .i64 43, .int .i64 0, .slice none 0 0, .slice none 0 0, .int .i64 0, .int .i64 0, .int .u16 0, .int .u16 0, .int .u16 0, .int .i64 co, .int .i64 le, .bool false, .int .i64 0, .slice none 0 0] 53)).alloc (.cells #[.int .i64 0, .int .i64 0, .slice none 0 0, .slice none 0 0, .int .i64 0, .int .i64 0, .int .u16 0, .int .u16 0, .int .u16 0, .int .i64 0, .int .i64 0, .bool false, .int .i64 0, .slice none 0 0] 53)) w4 := by simpa using hb4
         have hx1 : WholeV ((w.alloc (.cells #[.int .i64 43, .int .i64 0, .slice none 0 0, .slice none 0 0, .int .i64 0, .int .i64 0, .int .u16 0, .int .u16 0, .int .u16 0, .int .i64 co, .int .i64 le, .bool false, .int .i64 0, .slice none 0 0] 53)).alloc (.cells #[.int .i64 0, .int .i64 0, .slice none 0 0, .slice none 0 0, .int .i64 0, .int .i64 0, .int .u16 0, .int .u16 0, .int .u16 0, .int .i64 0, .int .i64 0, .bool false, .int .i64 0, .slice none 0 0] 53)) w.heap.size 53 [.int .i64 43, .int .i64 0, .slice none 0 0, .slice none 0 0, .int .i64 0, .int .i64 0, .int .u16 0, .int .u16 0, .int .u16 0, .int .i64 co, .int .i64 le, .bool false, .int .i64 0, .slice none 0 0] := (Below.heap_alloc _ _ _ (by simp)).trans (heap_alloc_new w _)
         have hx2 : WholeV ((w.alloc (.cells #[.int .i64 43, .int .i64 0, .slice none 0 0, .slice none 0 0, .int .i64 0, .int .i64 0, .int .u16 0, .int .u16 0, .int .u16 0, .int .i64 co, .int .i64 le, .bool false, .int .i64 0, .slice none 0 0] 53)).alloc (.cells #[.int .i64 0, .int .i64 0, .slice none 0 0, .slice none 0 0, .int .i64 0, .int .i64 0, .int .u16 0, .int .u16 0, .int .u16 0, .int .i64 0, .int .i64 0, .bool false, .int .i64 0, .slice none 0 0] 53)) (w.heap.size + 1) 53 [.int .i64 0, .int .i64 0, .slice none 0 0, .slice none 0 0, .int .i64 0, .int .i64 0, .int .u16 0, .int .u16 0, .int .u16 0, .int .i64 0, .int .i64 0, .bool false, .int .i64 0, .slice none 0 0] := by
           have h := heap_alloc_new (w.alloc (.cells #[.int .i64 43, .int .i64 0, .slice none 0 0, .slice none 0 0, .int .i64 0, .int .i64 0, .int .u16 0, .int .u16 0, .int .u16 0, .int .i64 co, .int .i64 le, .bool false, .int .i64 0, .slice none 0 0] 53)) (.cells #[.int .i64 0, .int .i64 0, .slice none 0 0, .slice none 0 0, .int .i64 0, .int .i64 0, .int .u16 0, .int .u16 0, .int .u16 0, .int .i64 0, .int .i64 0, .bool false, .int .i64 0, .slice none 0 0] 53)
           rw [show (w.alloc (.cells #[.int .i64 43, .int .i64 0, .slice none 0 0, .slice none 0 0, .int .i64 0, .int .i64 0, .int .u16 0, .int .u16 0, .int .u16 0, .int .i64 co, .int .i64 le, .bool false, .int .i64 0, .slice none 0 0] 53)).heap.size = w.heap.size + 1 by simp] at h
           exact h
         have HBX := Lib.hid (hx1.below hb5 (by omega))
         have HBZ := Lib.hid (hx2.below hb5 (by omega))
         have HB4 : Hid (Below w.heap.size w w4) := Lib.hid ((((Below.refl w.heap.size w).alloc (Nat.le_refl _) _).alloc (by simp) _).trans (hb5.mono (by omega)))
         clear hb4 hb5 hx1 hx2)
      | (go_at_call 126
         refine (iclone_any A m c (os.take m) _ ((HL.out.below HB4.out).take m (by omega)) (by omega) (by omega)).mono ?_
         rintro e w6 ⟨B, d, rfl, hol, hb6⟩
         have HOL := Lib.hid hol
         have HLT := Lib.hid HBZ.out.lt
         have HBY := Lib.hid (HBX.out.below hb6 HBX.out.lt)
         have HBV := Lib.hid (HBZ.out.below hb6 HBZ.out.lt)
         have HB6 := Lib.hid (HB4.out.trans (hb6.mono HB4.out.size))
         obtain ⟨hc0, hc1, hc2, hc3, hc4, hc5, hc6, hc7, hc8, hc9, hc10, hc11, hc12, hc13⟩ := cells14 HBY.out
         have hf11 := HBY.out.frozen 11
         have hf12 := HBY.out.frozen 12
         have hf13 := HBY.out.frozen 13
         obtain ⟨hq0, hq1, hq2, hq3, hq4, hq5, hq6, hq7, hq8, hq9, hq10, hq11, hq12, hq13⟩ := cells14 HBV.out
         have hg0 := HBV.out.frozen 0
         have hg1 := HBV.out.frozen 1
         have hg2 := HBV.out.frozen 2
         have hg3 := HBV.out.frozen 3
         have hg4 := HBV.out.frozen 4
         have hg5 := HBV.out.frozen 5
         have hg6 := HBV.out.frozen 6
         have hg7 := HBV.out.frozen 7
         have hg8 := HBV.out.frozen 8
         have hg9 := HBV.out.frozen 9
         have hg10 := HBV.out.frozen 10
         have hg11 := HBV.out.frozen 11
         have hg12 := HBV.out.frozen 12
         have hg13 := HBV.out.frozen 13
         obtain ⟨b, off, hA, hbb, hi1, hi2⟩ := HL.out.at_ m hlt
         rw [HX.out, ← HB6.out.cell hbb] at hi1
         subst hA
         clear hi2
         clear hol hb6))
    obtain ⟨w7, hw7⟩ : ∃ w7, w6.setCell ⟨w.heap.size, 13, none⟩ (.slice B m d) = w7 := ⟨_, rfl⟩
    have HY7 : Hid (WholeV w7 w.heap.size 53 [.int .i64 43, .int .i64 0, .slice none 0 0, .slice none 0 0, .int .i64 0, .int .i64 0, .int .u16 0, .int .u16 0, .int .u16 0, .int .i64 co, .int .i64 le, .bool false, .int .i64 0, .slice B m d]) := by rw [← hw7]; exact Lib.hid (HBY.out.set 13 (.slice B m d))
    have HV7 : Hid (WholeV w7 (w.heap.size + 1) 53 [.int .i64 0, .int .i64 0, .slice none 0 0, .slice none 0 0, .int .i64 0, .int .i64 0, .int .u16 0, .int .u16 0, .int .u16 0, .int .i64 0, .int .i64 0, .bool false, .int .i64 0, .slice none 0 0]) := by rw [← hw7]; exact Lib.hid ((Below.heap_setCell _ _ _ _ (by simp)).trans HBV.out)
    have HB7 : Hid (Below w.heap.size w w7) := by rw [← hw7]; exact Lib.hid (HB6.out.setCell (p := ⟨w.heap.size, 13, none⟩) (Nat.le_refl _) _)
    have HLT2 : Hid (w.heap.size < w4.heap.size) := Lib.hid (Nat.lt_of_succ_lt HLT.out)
    have HO7 : Hid (w7.ownsRow w4.heap.size 98 2 (.slice B m d) m (obs (os.take m))) := by
      rw [← hw7]
      exact Lib.hid (ownsRow_setCell_below HOL.out (a := ⟨w.heap.size, 13, none⟩) HLT2.out _)
    have hne : ¬ b = w.heap.size := by omega
    have hj1 : w7.cell? ⟨b, off + m * 2, none⟩ = some (.int .i64 x) := by rw [HB7.out.cell hbb, ← HB6.out.cell hbb]; exact hi1
    clear hi1
    rw [hw7]
    clear hw7 hc0 hc1 hc2 hc3 hc4 hc5 hc6 hc7 hc8 hc9 hc10 hc11 hc12 hc13 hf11 hf12 hf13 hq0 hg0 hq1 hg1 hq2 hg2 hq3 hg3 hq4 hg4 hq5 hg5 hq6 hg6 hq7 hg7 hq8 hg8 hq9 hg9 hq10 hg10 hq11 hg11 hq12 hg12 hq13 hg13
    obtain ⟨hc0, hc1, hc2, hc3, hc4, hc5, hc6, hc7, hc8, hc9, hc10, hc11, hc12, hc13⟩ := cells14 HY7.out
    have hf11 := HY7.out.frozen 11
    have hf12 := HY7.out.frozen 12
    go_region_with (fail)
    all_goals
      clear hc0 hc1 hc2 hc3 hc4 hc5 hc6 hc7 hc8 hc9 hc10 hc11 hc12 hc13 hf11 hf12 hj1
      obtain ⟨w8, hw8, HY8, HV8, HB8, HO8⟩ : ∃ w8, ((w7.setCell ⟨w.heap.size, 11, none⟩ (.bool true)).setCell ⟨w.heap.size, 12, none⟩ (.int .i64 x)).drew = w8 ∧ Hid (WholeV w8 w.heap.size 53 [.int .i64 43, .int .i64 0, .slice none 0 0, .slice none 0 0, .int .i64 0, .int .i64 0, .int .u16 0, .int .u16 0, .int .u16 0, .int .i64 co, .int .i64 le, .bool true, .int .i64 x, .slice B m d]) ∧ Hid (WholeV w8 (w.heap.size + 1) 53 [.int .i64 0, .int .i64 0, .slice none 0 0, .slice none 0 0, .int .i64 0, .int .i64 0, .int .u16 0, .int .u16 0, .int .u16 0, .int .i64 0, .int .i64 0, .bool false, .int .i64 0, .slice none 0 0]) ∧ Hid (Below w.heap.size w w8) ∧ Hid (w8.ownsRow w4.heap.size 98 2 (.slice B m d) m (obs (os.take m))) :=
        ⟨_, rfl, Lib.hid ((HY7.out.set 11 (.bool true)).set 12 (.int .i64 x)), Lib.hid ((Below.heap_setCell _ _ _ _ (by simp)).trans ((Below.heap_setCell _ _ _ _ (by simp)).trans HV7.out)), Lib.hid ((HB7.out.setCell (p := ⟨w.heap.size, 11, none⟩) (Nat.le_refl _) _).setCell (p := ⟨w.heap.size, 12, none⟩) (Nat.le_refl _) _).drew, Lib.hid (ownsRow_setCell_below (ownsRow_setCell_below HO7.out (a := ⟨w.heap.size, 11, none⟩) HLT2.out _) (a := ⟨w.heap.size, 12, none⟩) HLT2.out _)⟩
      rw [hw8]
      clear hw8 HY7 HV7 HB7 HO7
      obtain ⟨hc0, hc1, hc2, hc3, hc4, hc5, hc6, hc7, hc8, hc9, hc10, hc11, hc12, hc13⟩ := cells14 HY8.out
      obtain ⟨hq0, hq1, hq2, hq3, hq4, hq5, hq6, hq7, hq8, hq9, hq10, hq11, hq12, hq13⟩ := cells14 HV8.out
      have hg0 := HV8.out.frozen 0
      have hg1 := HV8.out.frozen 1
      have hg2 := HV8.out.frozen 2
      have hg3 := HV8.out.frozen 3
      have hg4 := HV8.out.frozen 4
      have hg5 := HV8.out.frozen 5
      have hg6 := HV8.out.frozen 6
      have hg7 := HV8.out.frozen 7
      have hg8 := HV8.out.frozen 8
      have hg9 := HV8.out.frozen 9
      have hg10 := HV8.out.frozen 10
      have hg11 := HV8.out.frozen 11
      have hg12 := HV8.out.frozen 12
      have hg13 := HV8.out.frozen 13
      go_wp2
      obtain ⟨w9, hw9⟩ : ∃ w9, ((((((((((((((w8.setCell ⟨w.heap.size + 1, 0, none⟩ (.int .i64 43)).setCell ⟨w.heap.size + 1, 1, none⟩ (.int .i64 0)).setCell ⟨w.heap.size + 1, 2, none⟩ (.slice none 0 0)).setCell ⟨w.heap.size + 1, 3, none⟩ (.slice none 0 0)).setCell ⟨w.heap.size + 1, 4, none⟩ (.int .i64 0)).setCell ⟨w.heap.size + 1, 5, none⟩ (.int .i64 0)).setCell ⟨w.heap.size + 1, 6, none⟩ (.int .u16 0)).setCell ⟨w.heap.size + 1, 7, none⟩ (.int .u16 0)).setCell ⟨w.heap.size + 1, 8, none⟩ (.int .u16 0)).setCell ⟨w.heap.size + 1, 9, none⟩ (.int .i64 co)).setCell ⟨w.heap.size + 1, 10, none⟩ (.int .i64 le)).setCell ⟨w.heap.size + 1, 11, none⟩ (.bool true)).setCell ⟨w.heap.size + 1, 12, none⟩ (.int .i64 x)).setCell ⟨w.heap.size + 1, 13, none⟩ (.slice B m d)) = w9 := ⟨_, rfl⟩
      have hwh := all14 HV8.out (.int .i64 43) (.int .i64 0) (.slice none 0 0) (.slice none 0 0) (.int .i64 0) (.int .i64 0) (.int .u16 0) (.int .u16 0) (.int .u16 0) (.int .i64 co) (.int .i64 le) (.bool true) (.int .i64 x) (.slice B m d) rfl
      have hbb9 := belg14 HB8.out (g := w.heap.size + 1) (by omega) (.int .i64 43) (.int .i64 0) (.slice none 0 0) (.slice none 0 0) (.int .i64 0) (.int .i64 0) (.int .u16 0) (.int .u16 0) (.int .u16 0) (.int .i64 co) (.int .i64 le) (.bool true) (.int .i64 x) (.slice B m d)
      have hoo := own14 HO8.out (g := w.heap.size + 1) HLT.out (.int .i64 43) (.int .i64 0) (.slice none 0 0) (.slice none 0 0) (.int .i64 0) (.int .i64 0) (.int .u16 0) (.int .u16 0) (.int .u16 0) (.int .i64 co) (.int .i64 le) (.bool true) (.int .i64 x) (.slice B m d)
      rw [hw9] at hwh hbb9 hoo
      rw [hw9]
      have hz9 : w.heap.size + 1 < w9.heap.size := hwh.lt
      obtain ⟨he0, he1, he2, he3, he4, he5, he6, he7, he8, he9, he10, he11, he12, he13⟩ := cells14 hwh
      exact bodyPost_ret (v := .agg #[.int .i64 43, .int .i64 0, .slice none 0 0, .slice none 0 0, .int .i64 0, .int .i64 0, .int .u16 0, .int .u16 0, .int .u16 0, .int .i64 co, .int .i64 le, .bool true, .int .i64 x, .slice B m d]) (by simp [results, Try.results91, go_sem, hz9, he0, he1, he2, he3, he4, he5, he6, he7, he8, he9, he10, he11, he12, he13]) rfl ⟨B, d, rfl, own2_mono hoo HB4.out.size, hbb9⟩

set_option maxRecDepth 100000 in
set_option maxHeartbeats 4000000 in
theorem ifilled_all (co le : Int) (A : Option Addr) (n c : Nat) (os : List Ob) (w : World) (c1 : 1 ≤ co) (c4 : co ≤ 4) (l0 : 0 ≤ le) (l1 : le ≤ 255) (hl : OL w w.heap.size A n os) (hn : n ≤ 100000) (hc : n ≤ c) (hz : ∀ o ∈ os, o.2.size ≤ 1000000) (hall : roomOf os = n) :
    Calls Try.prog 91 #[.agg #[.int .i64 43, .int .i64 0, .slice none 0 0, .slice none 0 0, .int .i64 0, .int .i64 0, .int .u16 0, .int .u16 0, .int .u16 0, .int .i64 co, .int .i64 le, .bool false, .int .i64 0, .slice none 0 0], .slice A n c] w fun e w' => ∃ B d, e = .returned (.agg #[.int .i64 43, .int .i64 0, .slice none 0 0, .slice none 0 0, .int .i64 0, .int .i64 0, .int .u16 0, .int .u16 0, .int .u16 0, .int .i64 co, .int .i64 le, .bool (moreOf os), .int .i64 (nextOf os), .slice B (roomOf os) d]) ∧ w'.ownsRow w.heap.size 98 2 (.slice B (roomOf os) d) (roomOf os) (obs (os.take (roomOf os))) ∧ Below w.heap.size w w' := by
  have HL := Lib.hid hl
  have C := Lib.hid (fun W hW => iroom_of co le A n c os W c1 c4 l0 l1 hW hn hc hz)
  have hlen := hl.len
  have hle := roomG_le 246 os
  change roomOf os ≤ _ at hle
  have hmo : moreOf os = false := by unfold moreOf; rw [hlen]; exact decide_eq_false (by omega)
  have hnx : nextOf os = 0 := by unfold nextOf; rw [hlen, if_neg (by omega)]
  rw [hmo, hnx]
  obtain ⟨m, hm⟩ : ∃ m, roomOf os = m := ⟨_, rfl⟩
  rw [hm] at C hle hall ⊢
  clear hl hmo hnx hm hz
  subst hall
  · go_enter Try.func91, Try.ntmps91
    go_wp2_with (first
      | (go_at_call 125
         refine (C.out _ (HL.out.below (((Below.refl _ _).alloc (Nat.le_refl _) _).alloc (by simp) _))).mono ?_
         rintro e w4 ⟨rfl, hb4⟩
         have hb5 : Below (w.heap.size + 2) ((w.alloc (.cells #[.int .i64 43, .int .i64 0, .slice none 0 0, .slice none 0 0, .int .i64 0, .int .i64 0, .int .u16 0, .int .u16 0, .int .u16 0, .int .i64 co, .int .i64 le, .bool false, .int .i64 0, .slice none 0 0] 53)).alloc (.cells #[.int .i64 0, .int .i64 0, .slice none 0 0, .slice none 0 0, .int .i64 0, .int .i64 0, .int .u16 0, .int .u16 0, .int .u16 0, .int .i64 0, .int .i64 0, .bool false, .int .i64 0, .slice none 0 0] 53)) w4 := by simpa using hb4
         have hx1 : WholeV ((w.alloc (.cells #[.int .i64 43, .int .i64 0, .slice none 0 0, .slice none 0 0, .int .i64 0, .int .i64 0, .int .u16 0, .int .u16 0, .int .u16 0, .int .i64 co, .int .i64 le, .bool false, .int .i64 0, .slice none 0 0] 53)).alloc (.cells #[.int .i64 0, .int .i64 0, .slice none 0 0, .slice none 0 0, .int .i64 0, .int .i64 0, .int .u16 0, .int .u16 0, .int .u16 0, .int .i64 0, .int .i64 0, .bool false, .int .i64 0, .slice none 0 0] 53)) w.heap.size 53 [.int .i64 43, .int .i64 0, .slice none 0 0, .slice none 0 0, .int .i64 0, .int .i64 0, .int .u16 0, .int .u16 0, .int .u16 0, .int .i64 co, .int .i64 le, .bool false, .int .i64 0, .slice none 0 0] := (Below.heap_alloc _ _ _ (by simp)).trans (heap_alloc_new w _)
         have hx2 : WholeV ((w.alloc (.cells #[.int .i64 43, .int .i64 0, .slice none 0 0, .slice none 0 0, .int .i64 0, .int .i64 0, .int .u16 0, .int .u16 0, .int .u16 0, .int .i64 co, .int .i64 le, .bool false, .int .i64 0, .slice none 0 0] 53)).alloc (.cells #[.int .i64 0, .int .i64 0, .slice none 0 0, .slice none 0 0, .int .i64 0, .int .i64 0, .int .u16 0, .int .u16 0, .int .u16 0, .int .i64 0, .int .i64 0, .bool false, .int .i64 0, .slice none 0 0] 53)) (w.heap.size + 1) 53 [.int .i64 0, .int .i64 0, .slice none 0 0, .slice none 0 0, .int .i64 0, .int .i64 0, .int .u16 0, .int .u16 0, .int .u16 0, .int .i64 0, .int .i64 0, .bool false, .int .i64 0, .slice none 0 0] := by
           have h := heap_alloc_new (w.alloc (.cells #[.int .i64 43, .int .i64 0, .slice none 0 0, .slice none 0 0, .int .i64 0, .int .i64 0, .int .u16 0, .int .u16 0, .int .u16 0, .int .i64 co, .int .i64 le, .bool false, .int .i64 0, .slice none 0 0] 53)) (.cells #[.int .i64 0, .int .i64 0, .slice none 0 0, .slice none 0 0, .int .i64 0, .int .i64 0, .int .u16 0, .int .u16 0, .int .u16 0, .int .i64 0, .int .i64 0, .bool false, .int .i64 0, .slice none 0 0] 53)
           rw [show (w.alloc (.cells #[.int .i64 43, .int .i64 0, .slice none 0 0, .slice none 0 0, .int .i64 0, .int .i64 0, .int .u16 0, .int .u16 0, .int .u16 0, .int .i64 co, .int .i64 le, .bool false, .int .i64 0, .slice none 0 0] 53)).heap.size = w.heap.size + 1 by simp] at h
           exact h
         have HBX := Lib.hid (hx1.below hb5 (by omega))
         have HBZ := Lib.hid (hx2.below hb5 (by omega))
         have HB4 : Hid (Below w.heap.size w w4) := Lib.hid ((((Below.refl w.heap.size w).alloc (Nat.le_refl _) _).alloc (by simp) _).trans (hb5.mono (by omega)))
         clear hb4 hb5 hx1 hx2)
      | (go_at_call 126
         refine (iclone_any A m c (os.take m) _ ((HL.out.below HB4.out).take m (by omega)) (by omega) (by omega)).mono ?_
         rintro e w6 ⟨B, d, rfl, hol, hb6⟩
         have HOL := Lib.hid hol
         have HLT := Lib.hid HBZ.out.lt
         have HBY := Lib.hid (HBX.out.below hb6 HBX.out.lt)
         have HBV := Lib.hid (HBZ.out.below hb6 HBZ.out.lt)
         have HB6 := Lib.hid (HB4.out.trans (hb6.mono HB4.out.size))
         obtain ⟨hc0, hc1, hc2, hc3, hc4, hc5, hc6, hc7, hc8, hc9, hc10, hc11, hc12, hc13⟩ := cells14 HBY.out
         have hf11 := HBY.out.frozen 11
         have hf12 := HBY.out.frozen 12
         have hf13 := HBY.out.frozen 13
         obtain ⟨hq0, hq1, hq2, hq3, hq4, hq5, hq6, hq7, hq8, hq9, hq10, hq11, hq12, hq13⟩ := cells14 HBV.out
         have hg0 := HBV.out.frozen 0
         have hg1 := HBV.out.frozen 1
         have hg2 := HBV.out.frozen 2
         have hg3 := HBV.out.frozen 3
         have hg4 := HBV.out.frozen 4
         have hg5 := HBV.out.frozen 5
         have hg6 := HBV.out.frozen 6
         have hg7 := HBV.out.frozen 7
         have hg8 := HBV.out.frozen 8
         have hg9 := HBV.out.frozen 9
         have hg10 := HBV.out.frozen 10
         have hg11 := HBV.out.frozen 11
         have hg12 := HBV.out.frozen 12
         have hg13 := HBV.out.frozen 13
         skip
         clear hol hb6))
    obtain ⟨w9, hw9⟩ : ∃ w9, (((((((((((((((w6.setCell ⟨w.heap.size, 13, none⟩ (.slice B m d)).setCell ⟨w.heap.size + 1, 0, none⟩ (.int .i64 43)).setCell ⟨w.heap.size + 1, 1, none⟩ (.int .i64 0)).setCell ⟨w.heap.size + 1, 2, none⟩ (.slice none 0 0)).setCell ⟨w.heap.size + 1, 3, none⟩ (.slice none 0 0)).setCell ⟨w.heap.size + 1, 4, none⟩ (.int .i64 0)).setCell ⟨w.heap.size + 1, 5, none⟩ (.int .i64 0)).setCell ⟨w.heap.size + 1, 6, none⟩ (.int .u16 0)).setCell ⟨w.heap.size + 1, 7, none⟩ (.int .u16 0)).setCell ⟨w.heap.size + 1, 8, none⟩ (.int .u16 0)).setCell ⟨w.heap.size + 1, 9, none⟩ (.int .i64 co)).setCell ⟨w.heap.size + 1, 10, none⟩ (.int .i64 le)).setCell ⟨w.heap.size + 1, 11, none⟩ (.bool false)).setCell ⟨w.heap.size + 1, 12, none⟩ (.int .i64 0)).setCell ⟨w.heap.size + 1, 13, none⟩ (.slice B m d)) = w9 := ⟨_, rfl⟩
    have hv7 : WholeV (w6.setCell ⟨w.heap.size, 13, none⟩ (.slice B m d)) (w.heap.size + 1) 53 [.int .i64 0, .int .i64 0, .slice none 0 0, .slice none 0 0, .int .i64 0, .int .i64 0, .int .u16 0, .int .u16 0, .int .u16 0, .int .i64 0, .int .i64 0, .bool false, .int .i64 0, .slice none 0 0] := (Below.heap_setCell _ _ _ _ (by simp)).trans HBV.out
    have hb7 : Below w.heap.size w (w6.setCell ⟨w.heap.size, 13, none⟩ (.slice B m d)) := HB6.out.setCell (p := ⟨w.heap.size, 13, none⟩) (Nat.le_refl _) _
    have ho7 : (w6.setCell ⟨w.heap.size, 13, none⟩ (.slice B m d)).ownsRow w4.heap.size 98 2 (.slice B m d) m (obs (os.take m)) := ownsRow_setCell_below HOL.out (a := ⟨w.heap.size, 13, none⟩) (Nat.lt_of_succ_lt HLT.out) _
    have hwh := all14 hv7 (.int .i64 43) (.int .i64 0) (.slice none 0 0) (.slice none 0 0) (.int .i64 0) (.int .i64 0) (.int .u16 0) (.int .u16 0) (.int .u16 0) (.int .i64 co) (.int .i64 le) (.bool false) (.int .i64 0) (.slice B m d) rfl
    have hbb9 := belg14 hb7 (g := w.heap.size + 1) (by omega) (.int .i64 43) (.int .i64 0) (.slice none 0 0) (.slice none 0 0) (.int .i64 0) (.int .i64 0) (.int .u16 0) (.int .u16 0) (.int .u16 0) (.int .i64 co) (.int .i64 le) (.bool false) (.int .i64 0) (.slice B m d)
    have hoo := own14 ho7 (g := w.heap.size + 1) HLT.out (.int .i64 43) (.int .i64 0) (.slice none 0 0) (.slice none 0 0) (.int .i64 0) (.int .i64 0) (.int .u16 0) (.int .u16 0) (.int .u16 0) (.int .i64 co) (.int .i64 le) (.bool false) (.int .i64 0) (.slice B m d)
    rw [hw9] at hwh hbb9 hoo
    rw [hw9]
    have hz9 : w.heap.size + 1 < w9.heap.size := hwh.lt
    obtain ⟨he0, he1, he2, he3, he4, he5, he6, he7, he8, he9, he10, he11, he12, he13⟩ := cells14 hwh
    exact bodyPost_ret (v := .agg #[.int .i64 43, .int .i64 0, .slice none 0 0, .slice none 0 0, .int .i64 0, .int .i64 0, .int .u16 0, .int .u16 0, .int .u16 0, .int .i64 co, .int .i64 le, .bool false, .int .i64 0, .slice B m d]) (by simp [results, Try.results91, go_sem, hz9, he0, he1, he2, he3, he4, he5, he6, he7, he8, he9, he10, he11, he12, he13]) rfl ⟨B, d, rfl, own2_mono hoo HB4.out.size, hbb9⟩

theorem ifilled_any (co le : Int) (A : Option Addr) (n c : Nat) (os : List Ob) (w : World) (c1 : 1 ≤ co) (c4 : co ≤ 4) (l0 : 0 ≤ le) (l1 : le ≤ 255) (hl : OL w w.heap.size A n os) (hn : n ≤ 100000) (hc : n ≤ c) (hz : ∀ o ∈ os, o.2.size ≤ 1000000) :
    Calls Try.prog 91 #[.agg #[.int .i64 43, .int .i64 0, .slice none 0 0, .slice none 0 0, .int .i64 0, .int .i64 0, .int .u16 0, .int .u16 0, .int .u16 0, .int .i64 co, .int .i64 le, .bool false, .int .i64 0, .slice none 0 0], .slice A n c] w fun e w' => ∃ B d, e = .returned (.agg #[.int .i64 43, .int .i64 0, .slice none 0 0, .slice none 0 0, .int .i64 0, .int .i64 0, .int .u16 0, .int .u16 0, .int .u16 0, .int .i64 co, .int .i64 le, .bool (moreOf os), .int .i64 (nextOf os), .slice B (roomOf os) d]) ∧ w'.ownsRow w.heap.size 98 2 (.slice B (roomOf os) d) (roomOf os) (obs (os.take (roomOf os))) ∧ Below w.heap.size w w' := by
  have hle := roomG_le 246 os
  change roomOf os ≤ _ at hle
  rw [hl.len] at hle
  rcases Nat.lt_or_ge (roomOf os) n with h | h
  · exact ifilled_more co le A n c os w c1 c4 l0 l1 hl hn hc hz h
  · exact ifilled_all co le A n c os w c1 c4 l0 l1 hl hn hc hz (by omega)

end Go.Proofs.Ytoljpdamalcjeaa

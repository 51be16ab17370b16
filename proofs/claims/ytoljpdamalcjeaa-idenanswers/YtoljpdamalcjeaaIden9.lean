/- Package iden: Answer of code 4. -/
import Derived.Test.YtoljpdamalcjeaaIden1
import Derived.Test.YtoljpdamalcjeaaPBox14
import Derived.Test.YtoljpdamalcjeaaLobj2
namespace Go.Proofs.Ytoljpdamalcjeaa
open Go.ChangeShapes Go.WideShapes Go.ChangeAt Go.RowKit
set_option linter.unusedVariables false
set_option linter.unusedSimpArgs false

set_option maxRecDepth 100000 in
set_option maxHeartbeats 2000000 in
theorem ianswer_none (A : Option Addr) (n c : Nat) (os : List Ob) (ob : Int) (w : World) (hl : OL w w.heap.size A n os) (hn : n ≤ 100000) (hc : n ≤ c) (hob : 0 ≤ ob ∧ ob ≤ 255) (h : ∀ k, k < n → (os.getD k ob0).1 ≠ ob) :
    Calls Try.prog 44 #[.slice A n c, .int .i64 4, .int .i64 ob] w fun e w' => e = .returned (.tuple #[.agg #[.int .i64 0, .int .i64 0, .slice none 0 0, .slice none 0 0, .int .i64 0, .int .i64 0, .int .u16 0, .int .u16 0, .int .u16 0, .int .i64 0, .int .i64 0, .bool false, .int .i64 0, .slice none 0 0], .int .i64 2]) ∧ Below w.heap.size w w' := by
  have C1 := Lib.hid (fun W => pwithin_lit 4 4 true W (decide_eq_true (by omega)))
  have C2 := Lib.hid (fun W => isbyte_lit ob true W (decide_eq_true hob))
  obtain ⟨le, hle⟩ : ∃ le, levelOf os = le := ⟨_, rfl⟩
  have C3 := Lib.hid (fun W hW => ilevel_any A n c os le W hW hn hc hle)
  have C4 := Lib.hid (fun W hW => iplace_no A n c os ob W hW hn h)
  have HL := Lib.hid (fun W (hW : Below w.heap.size w W) => hl.below hW)
  clear hl hle h
  go_enter Try.func44, Try.ntmps44
  go_wp2_with (first
    | (go_at_call 89; refine (C1.out _).mono ?_; rintro e w' ⟨rfl, rfl⟩)
    | (go_at_call 69; refine (C2.out _).mono ?_; rintro e w' ⟨rfl, rfl⟩)
    | (go_at_call 90
       refine (C3.out _ (HL.out _ ((Below.refl _ _).alloc (Nat.le_refl _) _))).mono ?_
       rintro e w1 ⟨rfl, d, hw1⟩
       have HB1 : Hid (Below w.heap.size w w1) := by rw [hw1]; exact Lib.hid (below_drewN ((Below.refl _ _).alloc (Nat.le_refl _) _) d)
       have HZ1 : Hid (WholeV w1 w.heap.size 53 [.int .i64 0, .int .i64 0, .slice none 0 0, .slice none 0 0, .int .i64 0, .int .i64 0, .int .u16 0, .int .u16 0, .int .u16 0, .int .i64 0, .int .i64 0, .bool false, .int .i64 0, .slice none 0 0]) := by rw [hw1]; exact Lib.hid (heap_alloc_new w _)
       clear hw1)
    | (go_at_call 95
       refine (C4.out _ (HL.out _ (HB1.out.alloc HB1.out.size _))).mono ?_
       rintro e w2 ⟨rfl, d2, hw2⟩
       have HB2 : Hid (Below w.heap.size w w2) := by rw [hw2]; exact Lib.hid (below_drewN (HB1.out.alloc HB1.out.size _) d2)
       have HZ2 : Hid (WholeV w2 w.heap.size 53 [.int .i64 0, .int .i64 0, .slice none 0 0, .slice none 0 0, .int .i64 0, .int .i64 0, .int .u16 0, .int .u16 0, .int .u16 0, .int .i64 0, .int .i64 0, .bool false, .int .i64 0, .slice none 0 0]) := by rw [hw2]; exact Lib.hid (WholeV.drewN (HZ1.out.below ((Below.refl _ _).alloc (Nat.le_refl _) _) HZ1.out.lt) _)
       clear hw2
       obtain ⟨hq0, hq1, hq2, hq3, hq4, hq5, hq6, hq7, hq8, hq9, hq10, hq11, hq12, hq13⟩ := cells14 HZ2.out
       have hg0 := HZ2.out.frozen 0
       have hg1 := HZ2.out.frozen 1
       have hg2 := HZ2.out.frozen 2
       have hg3 := HZ2.out.frozen 3
       have hg4 := HZ2.out.frozen 4
       have hg5 := HZ2.out.frozen 5
       have hg6 := HZ2.out.frozen 6
       have hg7 := HZ2.out.frozen 7
       have hg8 := HZ2.out.frozen 8
       have hg9 := HZ2.out.frozen 9
       have hg10 := HZ2.out.frozen 10
       have hg11 := HZ2.out.frozen 11
       have hg12 := HZ2.out.frozen 12
       have hg13 := HZ2.out.frozen 13))
  obtain ⟨w9, hw9⟩ : ∃ w9, ((((((((((((((w2.setCell ⟨w.heap.size, 0, none⟩ (.int .i64 0)).setCell ⟨w.heap.size, 1, none⟩ (.int .i64 0)).setCell ⟨w.heap.size, 2, none⟩ (.slice none 0 0)).setCell ⟨w.heap.size, 3, none⟩ (.slice none 0 0)).setCell ⟨w.heap.size, 4, none⟩ (.int .i64 0)).setCell ⟨w.heap.size, 5, none⟩ (.int .i64 0)).setCell ⟨w.heap.size, 6, none⟩ (.int .u16 0)).setCell ⟨w.heap.size, 7, none⟩ (.int .u16 0)).setCell ⟨w.heap.size, 8, none⟩ (.int .u16 0)).setCell ⟨w.heap.size, 9, none⟩ (.int .i64 0)).setCell ⟨w.heap.size, 10, none⟩ (.int .i64 0)).setCell ⟨w.heap.size, 11, none⟩ (.bool false)).setCell ⟨w.heap.size, 12, none⟩ (.int .i64 0)).setCell ⟨w.heap.size, 13, none⟩ (.slice none 0 0)) = w9 := ⟨_, rfl⟩
  have hwh := all14 HZ2.out (.int .i64 0) (.int .i64 0) (.slice none 0 0) (.slice none 0 0) (.int .i64 0) (.int .i64 0) (.int .u16 0) (.int .u16 0) (.int .u16 0) (.int .i64 0) (.int .i64 0) (.bool false) (.int .i64 0) (.slice none 0 0) rfl
  have hbb := bel14 HB2.out (.int .i64 0) (.int .i64 0) (.slice none 0 0) (.slice none 0 0) (.int .i64 0) (.int .i64 0) (.int .u16 0) (.int .u16 0) (.int .u16 0) (.int .i64 0) (.int .i64 0) (.bool false) (.int .i64 0) (.slice none 0 0)
  rw [hw9] at hwh hbb
  rw [hw9]
  have hz9 : w.heap.size < w9.heap.size := hwh.lt
  obtain ⟨he0, he1, he2, he3, he4, he5, he6, he7, he8, he9, he10, he11, he12, he13⟩ := cells14 hwh
  clear hq0 hq1 hq2 hq3 hq4 hq5 hq6 hq7 hq8 hq9 hq10 hq11 hq12 hq13 hg0 hg1 hg2 hg3 hg4 hg5 hg6 hg7 hg8 hg9 hg10 hg11 hg12 hg13
  go_wp2
  exact bodyPost_ret (v := .tuple #[.agg #[.int .i64 0, .int .i64 0, .slice none 0 0, .slice none 0 0, .int .i64 0, .int .i64 0, .int .u16 0, .int .u16 0, .int .u16 0, .int .i64 0, .int .i64 0, .bool false, .int .i64 0, .slice none 0 0], .int .i64 2]) (by simp [results, Try.results44, go_sem, hz9, he0, he1, he2, he3, he4, he5, he6, he7, he8, he9, he10, he11, he12, he13]) rfl ⟨rfl, hbb⟩

set_option maxRecDepth 100000 in
set_option maxHeartbeats 2000000 in
theorem ianswer_one (A : Option Addr) (n c : Nat) (os : List Ob) (ob : Int) (i : Nat) (w : World) (hl : OL w w.heap.size A n os) (hn : n ≤ 100000) (hc : n ≤ c) (hob : 0 ≤ ob ∧ ob ≤ 255) (hin : i < n) (h : ∀ k, k < i → (os.getD k ob0).1 ≠ ob) (h2 : (os.getD i ob0).1 = ob) :
    Calls Try.prog 44 #[.slice A n c, .int .i64 4, .int .i64 ob] w fun e w' => ∃ B, e = .returned (.tuple #[.agg #[.int .i64 43, .int .i64 0, .slice none 0 0, .slice none 0 0, .int .i64 0, .int .i64 0, .int .u16 0, .int .u16 0, .int .u16 0, .int .i64 4, .int .i64 (levelOf os), .bool false, .int .i64 0, .slice B 1 1], .int .i64 0]) ∧ w'.ownsRow w.heap.size 98 2 (.slice B 1 1) 1 (obs [os.getD i ob0]) ∧ Below w.heap.size w w' := by
  have C1 := Lib.hid (fun W => pwithin_lit 4 4 true W (decide_eq_true (by omega)))
  have C2 := Lib.hid (fun W => isbyte_lit ob true W (decide_eq_true hob))
  obtain ⟨le, hle⟩ : ∃ le, levelOf os = le := ⟨_, rfl⟩
  have C3 := Lib.hid (fun W hW => ilevel_any A n c os le W hW hn hc hle)
  have C4 := Lib.hid (fun W hW => iplace_yes A n c os ob i W hW hn hin h h2)
  have HL := Lib.hid (fun W (hW : Below w.heap.size w W) => hl.below hW)
  have hi : (i : Int) < (n : Int) := by omega
  obtain ⟨S, hS⟩ : ∃ S, (os.getD i ob0).2 = S := ⟨_, rfl⟩
  have hpair : os.getD i ob0 = (ob, S) := by rw [← h2, ← hS]
  have HPR := Lib.hid hpair
  rw [hle, hpair]
  clear hl hle h hS h2 hpair
  go_enter Try.func44, Try.ntmps44
  go_wp2_with (first
    | (go_at_call 89; refine (C1.out _).mono ?_; rintro e w' ⟨rfl, rfl⟩)
    | (go_at_call 69; refine (C2.out _).mono ?_; rintro e w' ⟨rfl, rfl⟩)
    | (go_at_call 90
       refine (C3.out _ (HL.out _ ((Below.refl _ _).alloc (Nat.le_refl _) _))).mono ?_
       rintro e w1 ⟨rfl, d, hw1⟩
       have HB1 : Hid (Below w.heap.size w w1) := by rw [hw1]; exact Lib.hid (below_drewN ((Below.refl _ _).alloc (Nat.le_refl _) _) d)
       have HZ1 : Hid (WholeV w1 w.heap.size 53 [.int .i64 0, .int .i64 0, .slice none 0 0, .slice none 0 0, .int .i64 0, .int .i64 0, .int .u16 0, .int .u16 0, .int .u16 0, .int .i64 0, .int .i64 0, .bool false, .int .i64 0, .slice none 0 0]) := by rw [hw1]; exact Lib.hid (heap_alloc_new w _)
       clear hw1)
    | (go_at_call 95
       refine (C4.out _ (HL.out _ (HB1.out.alloc HB1.out.size _))).mono ?_
       rintro e w2 ⟨rfl, d2, hw2⟩
       have HB2 : Hid (Below w.heap.size w w2) := by rw [hw2]; exact Lib.hid (below_drewN (HB1.out.alloc HB1.out.size _) d2)
       have HZ2 : Hid (WholeV w2 w.heap.size 53 [.int .i64 0, .int .i64 0, .slice none 0 0, .slice none 0 0, .int .i64 0, .int .i64 0, .int .u16 0, .int .u16 0, .int .u16 0, .int .i64 0, .int .i64 0, .bool false, .int .i64 0, .slice none 0 0]) := by rw [hw2]; exact Lib.hid (WholeV.drewN (HZ1.out.below ((Below.refl _ _).alloc (Nat.le_refl _) _) HZ1.out.lt) _)
       have HY2 : Hid (WholeV w2 w1.heap.size 53 [.int .i64 43, .int .i64 0, .slice none 0 0, .slice none 0 0, .int .i64 0, .int .i64 0, .int .u16 0, .int .u16 0, .int .u16 0, .int .i64 4, .int .i64 le, .bool false, .int .i64 0, .slice none 0 0]) := by rw [hw2]; exact Lib.hid (WholeV.drewN (heap_alloc_new w1 _) _)
       clear hw2
       obtain ⟨bA, offA, hAA, hbA, hcA, hcB⟩ := (HL.out _ HB2.out).at_ i hin
       rw [HPR.out] at hcA hcB
       subst hAA
       obtain ⟨hq0, hq1, hq2, hq3, hq4, hq5, hq6, hq7, hq8, hq9, hq10, hq11, hq12, hq13⟩ := cells14 HZ2.out
       have hg0 := HZ2.out.frozen 0
       have hg1 := HZ2.out.frozen 1
       have hg2 := HZ2.out.frozen 2
       have hg3 := HZ2.out.frozen 3
       have hg4 := HZ2.out.frozen 4
       have hg5 := HZ2.out.frozen 5
       have hg6 := HZ2.out.frozen 6
       have hg7 := HZ2.out.frozen 7
       have hg8 := HZ2.out.frozen 8
       have hg9 := HZ2.out.frozen 9
       have hg10 := HZ2.out.frozen 10
       have hg11 := HZ2.out.frozen 11
       have hg12 := HZ2.out.frozen 12
       have hg13 := HZ2.out.frozen 13
       obtain ⟨hy0, hy1, hy2, hy3, hy4, hy5, hy6, hy7, hy8, hy9, hy10, hy11, hy12, hy13⟩ := cells14 HY2.out
       have hf13 := HY2.out.frozen 13
       have hn0 : w.heap.size < w1.heap.size := HZ1.out.lt
       have hn1 : w1.heap.size < w2.heap.size := HY2.out.lt
       have hn2 : w.heap.size < w2.heap.size := HZ2.out.lt
       have hn3 : ¬ w.heap.size = w1.heap.size := by omega
       have hn4 : ¬ w1.heap.size = w.heap.size := by omega))
  have HB3 := Lib.hid (HB2.out.setCell (p := ⟨w1.heap.size, 13, none⟩) (Nat.le_of_lt hn0) (.slice (some ⟨w2.heap.size, 0, none⟩) 1 1))
  have HZ3 := Lib.hid (HZ2.out.below ((Below.refl w1.heap.size w2).setCell (p := ⟨w1.heap.size, 13, none⟩) (Nat.le_refl _) (.slice (some ⟨w2.heap.size, 0, none⟩) 1 1)) hn0)
  have hsz : (((((((((((((((w2.setCell ⟨w1.heap.size, 13, none⟩ (.slice (some ⟨w2.heap.size, 0, none⟩) 1 1)).setCell ⟨w.heap.size, 0, none⟩ (.int .i64 43)).setCell ⟨w.heap.size, 1, none⟩ (.int .i64 0)).setCell ⟨w.heap.size, 2, none⟩ (.slice none 0 0)).setCell ⟨w.heap.size, 3, none⟩ (.slice none 0 0)).setCell ⟨w.heap.size, 4, none⟩ (.int .i64 0)).setCell ⟨w.heap.size, 5, none⟩ (.int .i64 0)).setCell ⟨w.heap.size, 6, none⟩ (.int .u16 0)).setCell ⟨w.heap.size, 7, none⟩ (.int .u16 0)).setCell ⟨w.heap.size, 8, none⟩ (.int .u16 0)).setCell ⟨w.heap.size, 9, none⟩ (.int .i64 4)).setCell ⟨w.heap.size, 10, none⟩ (.int .i64 le)).setCell ⟨w.heap.size, 11, none⟩ (.bool false)).setCell ⟨w.heap.size, 12, none⟩ (.int .i64 0)).setCell ⟨w.heap.size, 13, none⟩ (.slice (some ⟨w2.heap.size, 0, none⟩) 1 1)).heap.size = w2.heap.size := by simp
  obtain ⟨w9, hw9⟩ : ∃ w9, (((((((((((((((w2.setCell ⟨w1.heap.size, 13, none⟩ (.slice (some ⟨w2.heap.size, 0, none⟩) 1 1)).setCell ⟨w.heap.size, 0, none⟩ (.int .i64 43)).setCell ⟨w.heap.size, 1, none⟩ (.int .i64 0)).setCell ⟨w.heap.size, 2, none⟩ (.slice none 0 0)).setCell ⟨w.heap.size, 3, none⟩ (.slice none 0 0)).setCell ⟨w.heap.size, 4, none⟩ (.int .i64 0)).setCell ⟨w.heap.size, 5, none⟩ (.int .i64 0)).setCell ⟨w.heap.size, 6, none⟩ (.int .u16 0)).setCell ⟨w.heap.size, 7, none⟩ (.int .u16 0)).setCell ⟨w.heap.size, 8, none⟩ (.int .u16 0)).setCell ⟨w.heap.size, 9, none⟩ (.int .i64 4)).setCell ⟨w.heap.size, 10, none⟩ (.int .i64 le)).setCell ⟨w.heap.size, 11, none⟩ (.bool false)).setCell ⟨w.heap.size, 12, none⟩ (.int .i64 0)).setCell ⟨w.heap.size, 13, none⟩ (.slice (some ⟨w2.heap.size, 0, none⟩) 1 1)) = w9 := ⟨_, rfl⟩
  have hwh := all14 HZ3.out (.int .i64 43) (.int .i64 0) (.slice none 0 0) (.slice none 0 0) (.int .i64 0) (.int .i64 0) (.int .u16 0) (.int .u16 0) (.int .u16 0) (.int .i64 4) (.int .i64 le) (.bool false) (.int .i64 0) (.slice (some ⟨w2.heap.size, 0, none⟩) 1 1) rfl
  have hbb := bel14 HB3.out (.int .i64 43) (.int .i64 0) (.slice none 0 0) (.slice none 0 0) (.int .i64 0) (.int .i64 0) (.int .u16 0) (.int .u16 0) (.int .u16 0) (.int .i64 4) (.int .i64 le) (.bool false) (.int .i64 0) (.slice (some ⟨w2.heap.size, 0, none⟩) 1 1)
  rw [hw9] at hwh hbb hsz
  rw [hw9]
  have hown := own2_new w9 [(ob, S)] 98 1 rfl (by omega)
  rw [hsz] at hown
  have hz9 : w.heap.size < w9.heap.size := hwh.lt
  have hwa := hwh.below ((Below.refl w9.heap.size w9).alloc (Nat.le_refl _) (.cells #[.int .i64 ob, .string S] 98)) hwh.lt
  have hba := hbb.alloc hbb.size (.cells #[.int .i64 ob, .string S] 98)
  have hown2 := own2_mono hown (Nat.le_of_lt hn2)
  obtain ⟨he0, he1, he2, he3, he4, he5, he6, he7, he8, he9, he10, he11, he12, he13⟩ := cells14 hwa
  clear hq0 hg0 hy0 hq1 hg1 hy1 hq2 hg2 hy2 hq3 hg3 hy3 hq4 hg4 hy4 hq5 hg5 hy5 hq6 hg6 hy6 hq7 hg7 hy7 hq8 hg8 hy8 hq9 hg9 hy9 hq10 hg10 hy10 hq11 hg11 hy11 hq12 hg12 hy12 hq13 hg13 hy13
  go_wp2
  exact bodyPost_ret (v := .tuple #[.agg #[.int .i64 43, .int .i64 0, .slice none 0 0, .slice none 0 0, .int .i64 0, .int .i64 0, .int .u16 0, .int .u16 0, .int .u16 0, .int .i64 4, .int .i64 le, .bool false, .int .i64 0, .slice (some ⟨w2.heap.size, 0, none⟩) 1 1], .int .i64 0]) (by simp [results, Try.results44, go_sem, hz9, hsz, he0, he1, he2, he3, he4, he5, he6, he7, he8, he9, he10, he11, he12, he13]) rfl ⟨_, rfl, hown2, hba⟩

end Go.Proofs.Ytoljpdamalcjeaa

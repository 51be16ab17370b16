/- Package iden: Answer. -/
import Derived.Test.YtoljpdamalcjeaaIden7
namespace Go.Proofs.Ytoljpdamalcjeaa
open Go.ChangeShapes Go.WideShapes Go.ChangeAt Go.RowKit
set_option linter.unusedVariables false
set_option linter.unusedSimpArgs false

theorem levelOf_bounds (os : List Ob) : 129 ≤ levelOf os ∧ levelOf os ≤ 131 := by
  unfold levelOf
  split
  · omega
  · split <;> omega
theorem iupTo_up {A : Option Addr} {n c : Nat} {os : List Ob} (id : Int) (hn : n ≤ 100000) (hc : n ≤ c) (W : World) (hl : OL W W.heap.size A n os) :
    Calls Try.prog 93 #[.slice A n c, .int .i64 id] W (Quiet (.slice A (upN os id) c) W) := by
  have hlen := hl.len
  subst hlen
  exact iupTo_any A os.length c os id (upN os id) W hl hn hc (upN_le _ _) (upN_in _ _) (upN_out _ _)

set_option maxRecDepth 100000 in
set_option maxHeartbeats 2000000 in
theorem ianswer_many (A : Option Addr) (n c : Nat) (os : List Ob) (co ob : Int) (A2 : Option Addr) (n2 c2 : Nat) (fr : List Ob) (w : World) (hl : OL w w.heap.size A n os) (hn : n ≤ 100000) (hc : n ≤ c) (hco : 1 ≤ co ∧ co ≤ 3) (hob : 0 ≤ ob ∧ ob ≤ 255)
    (hz : ∀ o ∈ fr, o.2.size ≤ 1000000) (hn2 : n2 ≤ 100000) (hc2 : n2 ≤ c2)
    (hF : ∀ W, OL W W.heap.size A n os → Calls Try.prog 92 #[.slice A (upN os (gOf co)) c, .int .i64 ob] W (Quiet (.slice A2 n2 c2) W)) (hO : ∀ W, OL W W.heap.size A n os → OL W W.heap.size A2 n2 fr) :
    Calls Try.prog 44 #[.slice A n c, .int .i64 co, .int .i64 ob] w fun e w' => ∃ B d, e = .returned (.tuple #[.agg #[.int .i64 43, .int .i64 0, .slice none 0 0, .slice none 0 0, .int .i64 0, .int .i64 0, .int .u16 0, .int .u16 0, .int .u16 0, .int .i64 co, .int .i64 (levelOf os), .bool (moreOf fr), .int .i64 (nextOf fr), .slice B (roomOf fr) d], .int .i64 0]) ∧ w'.ownsRow w.heap.size 98 2 (.slice B (roomOf fr) d) (roomOf fr) (obs (fr.take (roomOf fr))) ∧ Below w.heap.size w w' := by
  have C1 := Lib.hid (fun W => pwithin_lit co 4 true W (decide_eq_true (by omega)))
  have C2 := Lib.hid (fun W => isbyte_lit ob true W (decide_eq_true hob))
  have hlv := levelOf_bounds os
  obtain ⟨le, hle⟩ : ∃ le, levelOf os = le := ⟨_, rfl⟩
  obtain ⟨g, hg⟩ : ∃ g, gOf co = g := ⟨_, rfl⟩
  rw [hg] at hF
  rw [hle] at hlv ⊢
  have C3 := Lib.hid (fun W hW => ilevel_any A n c os le W hW hn hc hle)
  have C4 := Lib.hid (fun W => igreat_any co g W hco.1 hco.2 hg)
  have C5 := Lib.hid (fun W hW => iupTo_up (A := A) (n := n) (c := c) (os := os) g hn hc W hW)
  have C6 := Lib.hid hF
  have C7 := Lib.hid (fun W hW => ifilled_any co le A2 n2 c2 fr W (by omega) (by omega) (by omega) (by omega) (hO W hW) hn2 hc2 hz)
  have HL := Lib.hid (fun W (hW : Below w.heap.size w W) => hl.below hW)
  have hne : ¬ co = 4 := by omega
  clear hz hF hO hl hle hg
  obtain ⟨u, hu⟩ : ∃ u, upN os g = u := ⟨_, rfl⟩
  rw [hu] at C5 C6
  clear hu
  go_enter Try.func44, Try.ntmps44
  go_wp2_with (first
    | (go_at_call 89; refine (C1.out _).mono ?_; rintro e w' ⟨rfl, rfl⟩)
    | (go_at_call 69; refine (C2.out _).mono ?_; rintro e w' ⟨rfl, rfl⟩)
    | (go_at_call 90
       refine (C3.out _ (HL.out _ ((Below.refl _ _).alloc (Nat.le_refl _) _))).mono ?_
       rintro e w1 ⟨rfl, d, hw1⟩
       have HB1 : Hid (Below w.heap.size w w1) := by rw [hw1]; exact Lib.hid (below_drewN ((Below.refl _ _).alloc (Nat.le_refl _) _) d)
       have HZ1 : Hid (WholeV w1 w.heap.size 53 [.int .i64 0, .int .i64 0, .slice none 0 0, .slice none 0 0, .int .i64 0, .int .i64 0, .int .u16 0, .int .u16 0, .int .u16 0, .int .i64 0, .int .i64 0, .bool false, .int .i64 0, .slice none 0 0]) := by rw [hw1]; exact Lib.hid (heap_alloc_new w _)
       clear hw1))
  go_region_with (first
    | (go_at_call 94; refine (C4.out _).mono ?_; rintro e w' ⟨rfl, d2, rfl⟩)
    | (go_at_call 93; refine (C5.out _ (HL.out _ (below_drewN (HB1.out.alloc HB1.out.size _) _))).mono ?_; rintro e w' ⟨rfl, d3, rfl⟩)
    | (go_at_call 92; refine (C6.out _ (HL.out _ (below_drewN (HB1.out.alloc HB1.out.size _) _))).mono ?_; rintro e w' ⟨rfl, d4, rfl⟩)
    | (go_at_call 91
       refine (C7.out _ (HL.out _ (below_drewN (HB1.out.alloc HB1.out.size _) _))).mono ?_
       rintro e w5 ⟨B, d5, rfl, hol, hb5⟩
       have HZ5 := Lib.hid ((WholeV.drewN (HZ1.out.below ((Below.refl _ _).alloc (Nat.le_refl _) _) HZ1.out.lt) _).below hb5 (by simp; exact Nat.lt_succ_of_lt HZ1.out.lt))
       have HB5 := Lib.hid ((below_drewN (HB1.out.alloc HB1.out.size _) _).trans (hb5.mono (by simp; exact Nat.le_succ_of_le HB1.out.size)))
       obtain ⟨hq0, hq1, hq2, hq3, hq4, hq5, hq6, hq7, hq8, hq9, hq10, hq11, hq12, hq13⟩ := cells14 HZ5.out
       have hg0 := HZ5.out.frozen 0
       have hg1 := HZ5.out.frozen 1
       have hg2 := HZ5.out.frozen 2
       have hg3 := HZ5.out.frozen 3
       have hg4 := HZ5.out.frozen 4
       have hg5 := HZ5.out.frozen 5
       have hg6 := HZ5.out.frozen 6
       have hg7 := HZ5.out.frozen 7
       have hg8 := HZ5.out.frozen 8
       have hg9 := HZ5.out.frozen 9
       have hg10 := HZ5.out.frozen 10
       have hg11 := HZ5.out.frozen 11
       have hg12 := HZ5.out.frozen 12
       have hg13 := HZ5.out.frozen 13
       have HLT : Hid (w.heap.size < (w1.alloc (.cells #[.int .i64 43, .int .i64 0, .slice none 0 0, .slice none 0 0, .int .i64 0, .int .i64 0, .int .u16 0, .int .u16 0, .int .u16 0, .int .i64 co, .int .i64 le, .bool false, .int .i64 0, .slice none 0 0] 53)).heap.size) := Lib.hid (by simp; exact Nat.lt_succ_of_lt HZ1.out.lt)
       have HOL := Lib.hid hol
       clear hol hb5))
  all_goals
    obtain ⟨w9, hw9⟩ : ∃ w9, ((((((((((((((w5.setCell ⟨w.heap.size, 0, none⟩ (.int .i64 43)).setCell ⟨w.heap.size, 1, none⟩ (.int .i64 0)).setCell ⟨w.heap.size, 2, none⟩ (.slice none 0 0)).setCell ⟨w.heap.size, 3, none⟩ (.slice none 0 0)).setCell ⟨w.heap.size, 4, none⟩ (.int .i64 0)).setCell ⟨w.heap.size, 5, none⟩ (.int .i64 0)).setCell ⟨w.heap.size, 6, none⟩ (.int .u16 0)).setCell ⟨w.heap.size, 7, none⟩ (.int .u16 0)).setCell ⟨w.heap.size, 8, none⟩ (.int .u16 0)).setCell ⟨w.heap.size, 9, none⟩ (.int .i64 co)).setCell ⟨w.heap.size, 10, none⟩ (.int .i64 le)).setCell ⟨w.heap.size, 11, none⟩ (.bool (moreOf fr))).setCell ⟨w.heap.size, 12, none⟩ (.int .i64 (nextOf fr))).setCell ⟨w.heap.size, 13, none⟩ (.slice B (roomOf fr) d5)) = w9 := ⟨_, rfl⟩
    have hwh := all14 HZ5.out (.int .i64 43) (.int .i64 0) (.slice none 0 0) (.slice none 0 0) (.int .i64 0) (.int .i64 0) (.int .u16 0) (.int .u16 0) (.int .u16 0) (.int .i64 co) (.int .i64 le) (.bool (moreOf fr)) (.int .i64 (nextOf fr)) (.slice B (roomOf fr) d5) rfl
    have hbb := bel14 HB5.out (.int .i64 43) (.int .i64 0) (.slice none 0 0) (.slice none 0 0) (.int .i64 0) (.int .i64 0) (.int .u16 0) (.int .u16 0) (.int .u16 0) (.int .i64 co) (.int .i64 le) (.bool (moreOf fr)) (.int .i64 (nextOf fr)) (.slice B (roomOf fr) d5)
    have hol9 := own14 HOL.out (g := w.heap.size) HLT.out (.int .i64 43) (.int .i64 0) (.slice none 0 0) (.slice none 0 0) (.int .i64 0) (.int .i64 0) (.int .u16 0) (.int .u16 0) (.int .u16 0) (.int .i64 co) (.int .i64 le) (.bool (moreOf fr)) (.int .i64 (nextOf fr)) (.slice B (roomOf fr) d5)
    rw [hw9] at hwh hbb hol9
    rw [hw9]
    have hz9 : w.heap.size < w9.heap.size := hwh.lt
    obtain ⟨he0, he1, he2, he3, he4, he5, he6, he7, he8, he9, he10, he11, he12, he13⟩ := cells14 hwh
    clear hq0 hq1 hq2 hq3 hq4 hq5 hq6 hq7 hq8 hq9 hq10 hq11 hq12 hq13 hg0 hg1 hg2 hg3 hg4 hg5 hg6 hg7 hg8 hg9 hg10 hg11 hg12 hg13
    go_wp2
    exact bodyPost_ret (v := .tuple #[.agg #[.int .i64 43, .int .i64 0, .slice none 0 0, .slice none 0 0, .int .i64 0, .int .i64 0, .int .u16 0, .int .u16 0, .int .u16 0, .int .i64 co, .int .i64 le, .bool (moreOf fr), .int .i64 (nextOf fr), .slice B (roomOf fr) d5], .int .i64 0]) (by simp [results, Try.results44, go_sem, hz9, he0, he1, he2, he3, he4, he5, he6, he7, he8, he9, he10, he11, he12, he13]) rfl ⟨B, d5, rfl, own2_mono hol9 (Nat.le_of_lt HLT.out), hbb⟩

end Go.Proofs.Ytoljpdamalcjeaa

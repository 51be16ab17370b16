/- The document's Answer: refused, and of code 4. -/
import Derived.Test.YtoljpdamalcjeaaIChk
namespace Go.Proofs.Ytoljpdamalcjeaa
open Go.ChangeShapes Go.WideShapes Go.ChangeAt Go.RowKit
set_option linter.unusedVariables false
set_option linter.unusedSimpArgs false

set_option maxRecDepth 100000 in
set_option maxHeartbeats 2000000 in
theorem ranswer_bad (A : Option Addr) (n c : Nat) (co ob : Int) (w : World) (h : ¬ ((1 ≤ co ∧ co ≤ 4) ∧ 0 ≤ ob ∧ ob ≤ 255)) :
    Calls Try.prog 45 #[.slice A n c, .int .i64 co, .int .i64 ob] w fun e w' => e = .returned (.tuple #[.agg #[.int .i64 0, .int .i64 0, .slice none 0 0, .slice none 0 0, .int .i64 0, .int .i64 0, .int .u16 0, .int .u16 0, .int .u16 0, .int .i64 0, .int .i64 0, .bool false, .int .i64 0, .slice none 0 0], .int .i64 3]) ∧ Below w.heap.size w w' := by
  by_cases h1 : co < 1
  · clear h
    go_enter Try.func45, Try.ntmps45
    go_wp2
    exact bodyPost_ret (v := .tuple #[.agg #[.int .i64 0, .int .i64 0, .slice none 0 0, .slice none 0 0, .int .i64 0, .int .i64 0, .int .u16 0, .int .u16 0, .int .u16 0, .int .i64 0, .int .i64 0, .bool false, .int .i64 0, .slice none 0 0], .int .i64 3]) (by simp [results, Try.results45, go_sem]) rfl ⟨rfl, (Below.refl _ _).alloc (Nat.le_refl _) _⟩
  · by_cases h4 : 4 < co
    · clear h
      go_enter Try.func45, Try.ntmps45
      go_wp2
      exact bodyPost_ret (v := .tuple #[.agg #[.int .i64 0, .int .i64 0, .slice none 0 0, .slice none 0 0, .int .i64 0, .int .i64 0, .int .u16 0, .int .u16 0, .int .u16 0, .int .i64 0, .int .i64 0, .bool false, .int .i64 0, .slice none 0 0], .int .i64 3]) (by simp [results, Try.results45, go_sem]) rfl ⟨rfl, (Below.refl _ _).alloc (Nat.le_refl _) _⟩
    · have C := Lib.hid (fun W => byteful_no ob W (by omega))
      clear h
      go_enter Try.func45, Try.ntmps45
      go_wp2_with (go_at_call 72; refine (C.out _).mono ?_; rintro e w' ⟨rfl, rfl⟩)
      exact bodyPost_ret (v := .tuple #[.agg #[.int .i64 0, .int .i64 0, .slice none 0 0, .slice none 0 0, .int .i64 0, .int .i64 0, .int .u16 0, .int .u16 0, .int .u16 0, .int .i64 0, .int .i64 0, .bool false, .int .i64 0, .slice none 0 0], .int .i64 3]) (by simp [results, Try.results45, go_sem]) rfl ⟨rfl, (Below.refl _ _).alloc (Nat.le_refl _) _⟩

set_option maxRecDepth 100000 in
set_option maxHeartbeats 2000000 in
theorem ranswer_none (A : Option Addr) (n c : Nat) (os : List Ob) (ob : Int) (w : World) (hl : OL w w.heap.size A n os) (hg : goodL os) (hob : 0 ≤ ob ∧ ob ≤ 255) (h : ∀ k, k < n → (os.getD k ob0).1 ≠ ob) :
    Calls Try.prog 45 #[.slice A n c, .int .i64 4, .int .i64 ob] w fun e w' => e = .returned (.tuple #[.agg #[.int .i64 0, .int .i64 0, .slice none 0 0, .slice none 0 0, .int .i64 0, .int .i64 0, .int .u16 0, .int .u16 0, .int .u16 0, .int .i64 0, .int .i64 0, .bool false, .int .i64 0, .slice none 0 0], .int .i64 2]) ∧ Below w.heap.size w w' := by
  have C2 := Lib.hid (fun W => byteful_yes ob W hob.1 hob.2)
  obtain ⟨le, hle⟩ : ∃ le, levelOf os = le := ⟨_, rfl⟩
  have C3 := Lib.hid (fun W hW => rlevel_any A n c os W le hg hW hle)
  have HL := Lib.hid (fun W (hW : Below w.heap.size w W) => hl.below hW)
  have hn : n ≤ 43 := by have := hl.len; have := hg.l43; omega
  have H := Lib.hid h
  clear hl hle h hg
  go_enter Try.func45, Try.ntmps45
  go_wp2_with (first
    | (go_at_call 72; refine (C2.out _).mono ?_; rintro e w' ⟨rfl, rfl⟩)
    | (go_at_call 96
       refine (C3.out _ (HL.out _ ((Below.refl _ _).alloc (Nat.le_refl _) _))).mono ?_
       rintro e w1 ⟨rfl, d, hw1⟩
       have HB1 : Hid (Below w.heap.size w w1) := by rw [hw1]; exact Lib.hid (below_drewN ((Below.refl _ _).alloc (Nat.le_refl _) _) d)
       have HZ1 : Hid (WholeV w1 w.heap.size 53 [.int .i64 0, .int .i64 0, .slice none 0 0, .slice none 0 0, .int .i64 0, .int .i64 0, .int .u16 0, .int .u16 0, .int .u16 0, .int .i64 0, .int .i64 0, .bool false, .int .i64 0, .slice none 0 0]) := by rw [hw1]; exact Lib.hid (heap_alloc_new w _)
       clear hw1))
  obtain ⟨w3, hw3⟩ : ∃ w3, w1.alloc (.cells #[.int .i64 43, .int .i64 0, .slice none 0 0, .slice none 0 0, .int .i64 0, .int .i64 0, .int .u16 0, .int .u16 0, .int .u16 0, .int .i64 4, .int .i64 le, .bool false, .int .i64 0, .slice none 0 0] 53) = w3 := ⟨_, rfl⟩
  have HB3 : Hid (Below w.heap.size w w3) := by rw [← hw3]; exact Lib.hid (HB1.out.alloc HB1.out.size _)
  have HZ3 : Hid (WholeV w3 w.heap.size 53 [.int .i64 0, .int .i64 0, .slice none 0 0, .slice none 0 0, .int .i64 0, .int .i64 0, .int .u16 0, .int .u16 0, .int .u16 0, .int .i64 0, .int .i64 0, .bool false, .int .i64 0, .slice none 0 0]) := by rw [← hw3]; exact Lib.hid (HZ1.out.below ((Below.refl _ _).alloc (Nat.le_refl _) _) HZ1.out.lt)
  have HY3 : Hid (WholeV w3 w1.heap.size 53 [.int .i64 43, .int .i64 0, .slice none 0 0, .slice none 0 0, .int .i64 0, .int .i64 0, .int .u16 0, .int .u16 0, .int .u16 0, .int .i64 4, .int .i64 le, .bool false, .int .i64 0, .slice none 0 0]) := by rw [← hw3]; exact Lib.hid (heap_alloc_new w1 _)
  rw [hw3]
  clear hw3
  obtain ⟨hq0, hq1, hq2, hq3, hq4, hq5, hq6, hq7, hq8, hq9, hq10, hq11, hq12, hq13⟩ := cells14 HZ3.out
  obtain ⟨hy0, hy1, hy2, hy3, hy4, hy5, hy6, hy7, hy8, hy9, hy10, hy11, hy12, hy13⟩ := cells14 HY3.out
  have hg0 := HZ3.out.frozen 0
  have hg1 := HZ3.out.frozen 1
  have hg2 := HZ3.out.frozen 2
  have hg3 := HZ3.out.frozen 3
  have hg4 := HZ3.out.frozen 4
  have hg5 := HZ3.out.frozen 5
  have hg6 := HZ3.out.frozen 6
  have hg7 := HZ3.out.frozen 7
  have hg8 := HZ3.out.frozen 8
  have hg9 := HZ3.out.frozen 9
  have hg10 := HZ3.out.frozen 10
  have hg11 := HZ3.out.frozen 11
  have hg12 := HZ3.out.frozen 12
  have hg13 := HZ3.out.frozen 13
  have hf13 := HY3.out.frozen 13
  have hn0 : w.heap.size < w1.heap.size := HZ1.out.lt
  have hn1 : w1.heap.size < w3.heap.size := HY3.out.lt
  have hn2 : w.heap.size < w3.heap.size := HZ3.out.lt
  have hn3 : ¬ w.heap.size = w1.heap.size := by omega
  have hn4 : ¬ w1.heap.size = w.heap.size := by omega
  go_loop [9] (fun j => ∃ k : Nat, k ≤ n ∧ j = .int .i64 (k : Int)) (fun j => n - (intOf j).toNat)
  case atStart => exact ⟨0, by omega, rfl⟩
  case round =>
    obtain ⟨k, hk, rfl⟩ := hrel
    by_cases hlt : k < n
    · have hi : (k : Int) < (n : Int) := by omega
      obtain ⟨b, off, rfl, hb, hc1, hc2⟩ := (HL.out _ HB3.out).at_ k (by omega)
      have hne := H.out k hlt
      obtain ⟨x, hx⟩ : ∃ x, (os.getD k ob0).1 = x := ⟨_, rfl⟩
      rw [hx] at hc1 hne
      clear hx hc2
      have hne2 : (x == ob) = false := beq_eq_false_iff_ne.2 hne
      go_wp2
      go_round
      case rel => exact ⟨k + 1, by omega, by go_num⟩
      case measure => simp [intOf]; omega
    · obtain rfl : n = k := by omega
      have hd : decide (n < n) = false := by simp
      go_wp2
      obtain ⟨w9, hw9⟩ : ∃ w9, ((((((((((((((w3.setCell ⟨w.heap.size, 0, none⟩ (.int .i64 0)).setCell ⟨w.heap.size, 1, none⟩ (.int .i64 0)).setCell ⟨w.heap.size, 2, none⟩ (.slice none 0 0)).setCell ⟨w.heap.size, 3, none⟩ (.slice none 0 0)).setCell ⟨w.heap.size, 4, none⟩ (.int .i64 0)).setCell ⟨w.heap.size, 5, none⟩ (.int .i64 0)).setCell ⟨w.heap.size, 6, none⟩ (.int .u16 0)).setCell ⟨w.heap.size, 7, none⟩ (.int .u16 0)).setCell ⟨w.heap.size, 8, none⟩ (.int .u16 0)).setCell ⟨w.heap.size, 9, none⟩ (.int .i64 0)).setCell ⟨w.heap.size, 10, none⟩ (.int .i64 0)).setCell ⟨w.heap.size, 11, none⟩ (.bool false)).setCell ⟨w.heap.size, 12, none⟩ (.int .i64 0)).setCell ⟨w.heap.size, 13, none⟩ (.slice none 0 0)) = w9 := ⟨_, rfl⟩
      have hwh := all14 HZ3.out (.int .i64 0) (.int .i64 0) (.slice none 0 0) (.slice none 0 0) (.int .i64 0) (.int .i64 0) (.int .u16 0) (.int .u16 0) (.int .u16 0) (.int .i64 0) (.int .i64 0) (.bool false) (.int .i64 0) (.slice none 0 0) rfl
      have hbb := bel14 HB3.out (.int .i64 0) (.int .i64 0) (.slice none 0 0) (.slice none 0 0) (.int .i64 0) (.int .i64 0) (.int .u16 0) (.int .u16 0) (.int .u16 0) (.int .i64 0) (.int .i64 0) (.bool false) (.int .i64 0) (.slice none 0 0)
      rw [hw9] at hwh hbb
      rw [hw9]
      have hz9 : w.heap.size < w9.heap.size := hwh.lt
      obtain ⟨he0, he1, he2, he3, he4, he5, he6, he7, he8, he9, he10, he11, he12, he13⟩ := cells14 hwh
      clear hq0 hq1 hq2 hq3 hq4 hq5 hq6 hq7 hq8 hq9 hq10 hq11 hq12 hq13 hg0 hg1 hg2 hg3 hg4 hg5 hg6 hg7 hg8 hg9 hg10 hg11 hg12 hg13
      exact bodyPost_ret (v := .tuple #[.agg #[.int .i64 0, .int .i64 0, .slice none 0 0, .slice none 0 0, .int .i64 0, .int .i64 0, .int .u16 0, .int .u16 0, .int .u16 0, .int .i64 0, .int .i64 0, .bool false, .int .i64 0, .slice none 0 0], .int .i64 2]) (by simp [results, Try.results45, go_sem, hz9, he0, he1, he2, he3, he4, he5, he6, he7, he8, he9, he10, he11, he12, he13]) rfl ⟨rfl, hbb⟩

set_option maxRecDepth 100000 in
set_option maxHeartbeats 2000000 in
theorem ranswer_one (A : Option Addr) (n c : Nat) (os : List Ob) (ob : Int) (i : Nat) (w : World) (hl : OL w w.heap.size A n os) (hg : goodL os) (hob : 0 ≤ ob ∧ ob ≤ 255) (hin : i < n) (h : ∀ k, k < i → (os.getD k ob0).1 ≠ ob) (h2 : (os.getD i ob0).1 = ob) :
    Calls Try.prog 45 #[.slice A n c, .int .i64 4, .int .i64 ob] w fun e w' => ∃ B, e = .returned (.tuple #[.agg #[.int .i64 43, .int .i64 0, .slice none 0 0, .slice none 0 0, .int .i64 0, .int .i64 0, .int .u16 0, .int .u16 0, .int .u16 0, .int .i64 4, .int .i64 (levelOf os), .bool false, .int .i64 0, .slice B 1 1], .int .i64 0]) ∧ w'.ownsRow w.heap.size 98 2 (.slice B 1 1) 1 (obs [os.getD i ob0]) ∧ Below w.heap.size w w' := by
  have C2 := Lib.hid (fun W => byteful_yes ob W hob.1 hob.2)
  obtain ⟨le, hle⟩ : ∃ le, levelOf os = le := ⟨_, rfl⟩
  have C3 := Lib.hid (fun W hW => rlevel_any A n c os W le hg hW hle)
  have HL := Lib.hid (fun W (hW : Below w.heap.size w W) => hl.below hW)
  have hn : n ≤ 43 := by have := hl.len; have := hg.l43; omega
  have H := Lib.hid h
  obtain ⟨S, hS⟩ : ∃ S, (os.getD i ob0).2 = S := ⟨_, rfl⟩
  have hpair : os.getD i ob0 = (ob, S) := by rw [← h2, ← hS]
  have HPR := Lib.hid hpair
  rw [hle, hpair]
  clear hl hle h hg hS h2 hpair
  go_enter Try.func45, Try.ntmps45
  go_wp2_with (first
    | (go_at_call 72; refine (C2.out _).mono ?_; rintro e w' ⟨rfl, rfl⟩)
    | (go_at_call 96
       refine (C3.out _ (HL.out _ ((Below.refl _ _).alloc (Nat.le_refl _) _))).mono ?_
       rintro e w1 ⟨rfl, d, hw1⟩
       have HB1 : Hid (Below w.heap.size w w1) := by rw [hw1]; exact Lib.hid (below_drewN ((Below.refl _ _).alloc (Nat.le_refl _) _) d)
       have HZ1 : Hid (WholeV w1 w.heap.size 53 [.int .i64 0, .int .i64 0, .slice none 0 0, .slice none 0 0, .int .i64 0, .int .i64 0, .int .u16 0, .int .u16 0, .int .u16 0, .int .i64 0, .int .i64 0, .bool false, .int .i64 0, .slice none 0 0]) := by rw [hw1]; exact Lib.hid (heap_alloc_new w _)
       clear hw1))
  obtain ⟨w3, hw3⟩ : ∃ w3, w1.alloc (.cells #[.int .i64 43, .int .i64 0, .slice none 0 0, .slice none 0 0, .int .i64 0, .int .i64 0, .int .u16 0, .int .u16 0, .int .u16 0, .int .i64 4, .int .i64 le, .bool false, .int .i64 0, .slice none 0 0] 53) = w3 := ⟨_, rfl⟩
  have HB3 : Hid (Below w.heap.size w w3) := by rw [← hw3]; exact Lib.hid (HB1.out.alloc HB1.out.size _)
  have HZ3 : Hid (WholeV w3 w.heap.size 53 [.int .i64 0, .int .i64 0, .slice none 0 0, .slice none 0 0, .int .i64 0, .int .i64 0, .int .u16 0, .int .u16 0, .int .u16 0, .int .i64 0, .int .i64 0, .bool false, .int .i64 0, .slice none 0 0]) := by rw [← hw3]; exact Lib.hid (HZ1.out.below ((Below.refl _ _).alloc (Nat.le_refl _) _) HZ1.out.lt)
  have HY3 : Hid (WholeV w3 w1.heap.size 53 [.int .i64 43, .int .i64 0, .slice none 0 0, .slice none 0 0, .int .i64 0, .int .i64 0, .int .u16 0, .int .u16 0, .int .u16 0, .int .i64 4, .int .i64 le, .bool false, .int .i64 0, .slice none 0 0]) := by rw [← hw3]; exact Lib.hid (heap_alloc_new w1 _)
  rw [hw3]
  clear hw3
  obtain ⟨hq0, hq1, hq2, hq3, hq4, hq5, hq6, hq7, hq8, hq9, hq10, hq11, hq12, hq13⟩ := cells14 HZ3.out
  obtain ⟨hy0, hy1, hy2, hy3, hy4, hy5, hy6, hy7, hy8, hy9, hy10, hy11, hy12, hy13⟩ := cells14 HY3.out
  have hg0 := HZ3.out.frozen 0
  have hg1 := HZ3.out.frozen 1
  have hg2 := HZ3.out.frozen 2
  have hg3 := HZ3.out.frozen 3
  have hg4 := HZ3.out.frozen 4
  have hg5 := HZ3.out.frozen 5
  have hg6 := HZ3.out.frozen 6
  have hg7 := HZ3.out.frozen 7
  have hg8 := HZ3.out.frozen 8
  have hg9 := HZ3.out.frozen 9
  have hg10 := HZ3.out.frozen 10
  have hg11 := HZ3.out.frozen 11
  have hg12 := HZ3.out.frozen 12
  have hg13 := HZ3.out.frozen 13
  have hf13 := HY3.out.frozen 13
  have hn0 : w.heap.size < w1.heap.size := HZ1.out.lt
  have hn1 : w1.heap.size < w3.heap.size := HY3.out.lt
  have hn2 : w.heap.size < w3.heap.size := HZ3.out.lt
  have hn3 : ¬ w.heap.size = w1.heap.size := by omega
  have hn4 : ¬ w1.heap.size = w.heap.size := by omega
  go_loop [9] (fun j => ∃ k : Nat, k ≤ i ∧ j = .int .i64 (k : Int)) (fun j => n - (intOf j).toNat)
  case atStart => exact ⟨0, by omega, rfl⟩
  case round =>
    obtain ⟨k, hk, rfl⟩ := hrel
    by_cases hlt : k < i
    · have hi : (k : Int) < (n : Int) := by omega
      obtain ⟨b, off, rfl, hb, hc1, hc2⟩ := (HL.out _ HB3.out).at_ k (by omega)
      have hne := H.out k hlt
      obtain ⟨x, hx⟩ : ∃ x, (os.getD k ob0).1 = x := ⟨_, rfl⟩
      rw [hx] at hc1 hne
      clear hx hc2
      have hne2 : (x == ob) = false := beq_eq_false_iff_ne.2 hne
      go_wp2
      go_round
      case rel => exact ⟨k + 1, by omega, by go_num⟩
      case measure => simp [intOf]; omega
    · obtain rfl : i = k := by omega
      have hi : (i : Int) < (n : Int) := by omega
      obtain ⟨bA, offA, hAA, hbA, hcA, hcB⟩ := (HL.out _ HB3.out).at_ i hin
      rw [HPR.out] at hcA hcB
      subst hAA
      have hee : (ob == ob) = true := by simp
      go_wp2
      have HB5 := Lib.hid (HB3.out.setCell (p := ⟨w1.heap.size, 13, none⟩) (Nat.le_of_lt hn0) (.slice (some ⟨w3.heap.size, 0, none⟩) 1 1))
      have HZ5 := Lib.hid (HZ3.out.below ((Below.refl w1.heap.size w3).setCell (p := ⟨w1.heap.size, 13, none⟩) (Nat.le_refl _) (.slice (some ⟨w3.heap.size, 0, none⟩) 1 1)) hn0)
      have hsz : (((((((((((((((w3.setCell ⟨w1.heap.size, 13, none⟩ (.slice (some ⟨w3.heap.size, 0, none⟩) 1 1)).setCell ⟨w.heap.size, 0, none⟩ (.int .i64 43)).setCell ⟨w.heap.size, 1, none⟩ (.int .i64 0)).setCell ⟨w.heap.size, 2, none⟩ (.slice none 0 0)).setCell ⟨w.heap.size, 3, none⟩ (.slice none 0 0)).setCell ⟨w.heap.size, 4, none⟩ (.int .i64 0)).setCell ⟨w.heap.size, 5, none⟩ (.int .i64 0)).setCell ⟨w.heap.size, 6, none⟩ (.int .u16 0)).setCell ⟨w.heap.size, 7, none⟩ (.int .u16 0)).setCell ⟨w.heap.size, 8, none⟩ (.int .u16 0)).setCell ⟨w.heap.size, 9, none⟩ (.int .i64 4)).setCell ⟨w.heap.size, 10, none⟩ (.int .i64 le)).setCell ⟨w.heap.size, 11, none⟩ (.bool false)).setCell ⟨w.heap.size, 12, none⟩ (.int .i64 0)).setCell ⟨w.heap.size, 13, none⟩ (.slice (some ⟨w3.heap.size, 0, none⟩) 1 1)).heap.size = w3.heap.size := by simp
      obtain ⟨w9, hw9⟩ : ∃ w9, (((((((((((((((w3.setCell ⟨w1.heap.size, 13, none⟩ (.slice (some ⟨w3.heap.size, 0, none⟩) 1 1)).setCell ⟨w.heap.size, 0, none⟩ (.int .i64 43)).setCell ⟨w.heap.size, 1, none⟩ (.int .i64 0)).setCell ⟨w.heap.size, 2, none⟩ (.slice none 0 0)).setCell ⟨w.heap.size, 3, none⟩ (.slice none 0 0)).setCell ⟨w.heap.size, 4, none⟩ (.int .i64 0)).setCell ⟨w.heap.size, 5, none⟩ (.int .i64 0)).setCell ⟨w.heap.size, 6, none⟩ (.int .u16 0)).setCell ⟨w.heap.size, 7, none⟩ (.int .u16 0)).setCell ⟨w.heap.size, 8, none⟩ (.int .u16 0)).setCell ⟨w.heap.size, 9, none⟩ (.int .i64 4)).setCell ⟨w.heap.size, 10, none⟩ (.int .i64 le)).setCell ⟨w.heap.size, 11, none⟩ (.bool false)).setCell ⟨w.heap.size, 12, none⟩ (.int .i64 0)).setCell ⟨w.heap.size, 13, none⟩ (.slice (some ⟨w3.heap.size, 0, none⟩) 1 1)) = w9 := ⟨_, rfl⟩
      have hwh := all14 HZ5.out (.int .i64 43) (.int .i64 0) (.slice none 0 0) (.slice none 0 0) (.int .i64 0) (.int .i64 0) (.int .u16 0) (.int .u16 0) (.int .u16 0) (.int .i64 4) (.int .i64 le) (.bool false) (.int .i64 0) (.slice (some ⟨w3.heap.size, 0, none⟩) 1 1) rfl
      have hbb := bel14 HB5.out (.int .i64 43) (.int .i64 0) (.slice none 0 0) (.slice none 0 0) (.int .i64 0) (.int .i64 0) (.int .u16 0) (.int .u16 0) (.int .u16 0) (.int .i64 4) (.int .i64 le) (.bool false) (.int .i64 0) (.slice (some ⟨w3.heap.size, 0, none⟩) 1 1)
      rw [hw9] at hwh hbb hsz
      rw [hw9]
      have hown := own2_new w9 [(ob, S)] 98 1 rfl (by omega)
      rw [hsz] at hown
      have hz9 : w.heap.size < w9.heap.size := hwh.lt
      have hwa := hwh.below ((Below.refl w9.heap.size w9).alloc (Nat.le_refl _) (.cells #[.int .i64 ob, .string S] 98)) hwh.lt
      have hba := hbb.alloc hbb.size (.cells #[.int .i64 ob, .string S] 98)
      have hown2 := own2_mono hown (Nat.le_of_lt hn2)
      obtain ⟨he0, he1, he2, he3, he4, he5, he6, he7, he8, he9, he10, he11, he12, he13⟩ := cells14 hwa
      clear hq0 hq1 hq2 hq3 hq4 hq5 hq6 hq7 hq8 hq9 hq10 hq11 hq12 hq13 hg0 hg1 hg2 hg3 hg4 hg5 hg6 hg7 hg8 hg9 hg10 hg11 hg12 hg13 hy0 hy1 hy2 hy3 hy4 hy5 hy6 hy7 hy8 hy9 hy10 hy11 hy12 hy13
      exact bodyPost_ret (v := .tuple #[.agg #[.int .i64 43, .int .i64 0, .slice none 0 0, .slice none 0 0, .int .i64 0, .int .i64 0, .int .u16 0, .int .u16 0, .int .u16 0, .int .i64 4, .int .i64 le, .bool false, .int .i64 0, .slice (some ⟨w3.heap.size, 0, none⟩) 1 1], .int .i64 0]) (by simp [results, Try.results45, go_sem, hz9, hsz, he0, he1, he2, he3, he4, he5, he6, he7, he8, he9, he10, he11, he12, he13]) rfl ⟨_, rfl, hown2, hba⟩

end Go.Proofs.Ytoljpdamalcjeaa

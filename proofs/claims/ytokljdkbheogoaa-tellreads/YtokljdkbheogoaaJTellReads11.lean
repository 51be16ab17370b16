/- Joined: AskSame RSame2. -/
import Derived.Test.YtokljdkbheogoaaAskSpec
import Derived.Test.YtokljdkbheogoaaWithin
import Derived.Test.YtokljdkbheogoaaTSpec
import Derived.Test.YtokljdkbheogoaaObjs
namespace Go.Proofs.Ytokljdkbheogoaa
open Go.ChangeShapes Go.WideShapes Go.ChangeAt Go.RowKit
set_option linter.unusedVariables false
set_option linter.unusedSimpArgs false

theorem digit_any (k d n : Int) (w : World) (h0 : -9223372036854775808 ≤ k) (h1 : k ≤ 9223372036854775807) (hd : 1 < d) (hd1 : d ≤ 4611686018427387903) (hn : 0 < n) (hn1 : n ≤ 4611686018427387903) :
    Calls Try.prog 26 #[.int .i64 k, .int .i64 d, .int .i64 n] w fun e w' => e = .returned (.int .i64 ((k.tdiv d) % n)) ∧ w = w' := by
  have hb : -9223372036854775808 ≤ k.tdiv d ∧ k.tdiv d ≤ 9223372036854775807 := by
    rcases Int.le_total 0 k with h | h
    · rw [Int.tdiv_eq_ediv_of_nonneg h]
      have := Int.ediv_le_self d h
      have := Int.ediv_nonneg h (show 0 ≤ d by omega)
      omega
    · have e : k.tdiv d = - ((-k) / d) := by
        have := Int.neg_tdiv (-k) d
        rw [Int.neg_neg] at this
        rw [this, Int.tdiv_eq_ediv_of_nonneg (show 0 ≤ -k by omega)]
      have := Int.ediv_le_self d (show 0 ≤ -k by omega)
      have := Int.ediv_nonneg (show 0 ≤ -k by omega) (show 0 ≤ d by omega)
      omega
  obtain ⟨q, hq⟩ : ∃ q, k.tdiv d = q := ⟨_, rfl⟩
  rw [hq] at hb ⊢
  have b0 := hb.1
  have b1 := hb.2
  have hd0 : d ≠ 0 := by omega
  have hd2 : d ≠ -1 := by omega
  clear hb
  go_enter Try.func26, Try.ntmps26
  go_wp2_with (go_at_call 10; refine (within_any q n _ b0 b1 hn hn1).mono ?_; rintro e w' ⟨rfl, rfl⟩)
  go_ret
  exact ⟨rfl, rfl⟩

theorem samewords_yes (A B : Option Addr) (n c d : Nat) (zs : List Int) (w : World) (ha : Row .u16 w w.heap.size A n zs) (hb : Row .u16 w w.heap.size B n zs) (hn : n ≤ 100000) :
    Calls Try.prog 43 #[.slice A n c, .slice B n d] w (Quiet (.bool true) w) := by
  have HA := Lib.hid ha
  have HB := Lib.hid hb
  clear ha hb
  go_enter Try.func43, Try.ntmps43
  go_wp2
  go_loopw [5] (fun i wr => ∃ k d : Nat, k ≤ n ∧ i = .int .i64 (k : Int) ∧ wr = w.drewN d) (fun i _ => n - (intOf i).toNat)
  case atStart => exact ⟨0, 0, by omega, rfl, rfl⟩
  case round =>
    obtain ⟨k, d, hk, rfl, rfl⟩ := hrel
    by_cases hlt : k < n
    · obtain ⟨b, off, rfl, hb, hcell⟩ := HA.out.2 (by omega)
      obtain ⟨b', off', rfl, hb', hcell'⟩ := HB.out.2 (by omega)
      have hc1 := hcell k hlt
      have hc2 := hcell' k hlt
      have hi1 : (k : Int) < (n : Int) := by omega
      clear hcell hcell'
      go_wp2
      go_quiet (fail)
      go_wp2
      go_roundw
      case rel => exact ⟨k + 1, _, by omega, by go_num, rfl⟩
      case measure => simp [intOf]; omega
    · go_wp2
      go_ret
      exact ⟨rfl, _, rfl⟩

theorem samebits5_yes (A B : Option Addr) (n c d : Nat) (bs : List Bool) (w : World) (ha : BRow w w.heap.size A n bs) (hb : BRow w w.heap.size B n bs) (hn : n ≤ 100000) :
    Calls Try.prog 42 #[.slice A n c, .slice B n d] w (Quiet (.bool true) w) := by
  have HA := Lib.hid ha
  have HB := Lib.hid hb
  clear ha hb
  go_enter Try.func42, Try.ntmps42
  go_wp2
  go_loopw [5] (fun i wr => ∃ k d : Nat, k ≤ n ∧ i = .int .i64 (k : Int) ∧ wr = w.drewN d) (fun i _ => n - (intOf i).toNat)
  case atStart => exact ⟨0, 0, by omega, rfl, rfl⟩
  case round =>
    obtain ⟨k, d, hk, rfl, rfl⟩ := hrel
    by_cases hlt : k < n
    · obtain ⟨b, off, rfl, hb, hcell⟩ := HA.out.2 (by omega)
      obtain ⟨b', off', rfl, hb', hcell'⟩ := HB.out.2 (by omega)
      have hc1 := hcell k hlt
      have hc2 := hcell' k hlt
      have hi1 : (k : Int) < (n : Int) := by omega
      clear hcell hcell'
      go_wp2
      go_quiet (fail)
      go_wp2
      go_roundw
      case rel => exact ⟨k + 1, _, by omega, by go_num, rfl⟩
      case measure => simp [intOf]; omega
    · go_wp2
      go_ret
      exact ⟨rfl, _, rfl⟩

theorem drawn_to {w wr : World} {e : Nat} (h : Hid (wr = w.drewN e)) (n : Nat) : wr.drewN n = w.drewN (e + n) := by rw [h.out, World.drewN_drewN]

set_option maxRecDepth 100000 in
set_option maxHeartbeats 4000000 in
theorem sametell_yes (fn ex at_ n v an orr co le : Int) (mo : Bool) (nx : Int) (bs : List Bool) (ws : List Int) (os : List Ob) (bl wl ol : Nat) (BA WA OA BB WB OB : Option Addr) (b1 w1 o1 b2 w2 o2 : Nat) (w : World)
    (hb1 : BRow w w.heap.size BA bl bs) (hb2 : BRow w w.heap.size BB bl bs) (hw1 : Row .u16 w w.heap.size WA wl ws) (hw2 : Row .u16 w w.heap.size WB wl ws) (ho1 : OL w w.heap.size OA ol os) (ho2 : OL w w.heap.size OB ol os) (hbl : bl ≤ 100000) (hwl : wl ≤ 100000) (hol : ol ≤ 100000) :
    Calls Try.prog 14 #[.agg #[.int .i64 fn, .int .i64 ex, .slice BA bl b1, .slice WA wl w1, .int .i64 at_, .int .i64 n, .int .u16 v, .int .u16 an, .int .u16 orr, .int .i64 co, .int .i64 le, .bool mo, .int .i64 nx, .slice OA ol o1], .agg #[.int .i64 fn, .int .i64 ex, .slice BB bl b2, .slice WB wl w2, .int .i64 at_, .int .i64 n, .int .u16 v, .int .u16 an, .int .u16 orr, .int .i64 co, .int .i64 le, .bool mo, .int .i64 nx, .slice OB ol o2]] w fun e w' => e = .returned (.bool true) ∧ Below w.heap.size w w' := by
  obtain ⟨X0, hX0⟩ : ∃ X0, ((w.alloc (.cells #[.int .i64 fn, .int .i64 ex, .slice BA bl b1, .slice WA wl w1, .int .i64 at_, .int .i64 n, .int .u16 v, .int .u16 an, .int .u16 orr, .int .i64 co, .int .i64 le, .bool mo, .int .i64 nx, .slice OA ol o1] 31)).alloc (.cells #[.int .i64 fn, .int .i64 ex, .slice BB bl b2, .slice WB wl w2, .int .i64 at_, .int .i64 n, .int .u16 v, .int .u16 an, .int .u16 orr, .int .i64 co, .int .i64 le, .bool mo, .int .i64 nx, .slice OB ol o2] 31)) = X0 := ⟨_, rfl⟩
  have hk : Below w.heap.size w X0 := by rw [← hX0]; exact ((Below.refl _ _).alloc (Nat.le_refl _) _).alloc (by simp) _
  have hA : WholeV X0 w.heap.size 31 [.int .i64 fn, .int .i64 ex, .slice BA bl b1, .slice WA wl w1, .int .i64 at_, .int .i64 n, .int .u16 v, .int .u16 an, .int .u16 orr, .int .i64 co, .int .i64 le, .bool mo, .int .i64 nx, .slice OA ol o1] := by
    rw [← hX0]
    exact box14 _ _ _ _ _ _ _ _ _ _ _ _ _ _ _ w _ ((Below.refl _ _).alloc (by simp) _)
  have hB : WholeV X0 (w.heap.size + 1) 31 [.int .i64 fn, .int .i64 ex, .slice BB bl b2, .slice WB wl w2, .int .i64 at_, .int .i64 n, .int .u16 v, .int .u16 an, .int .u16 orr, .int .i64 co, .int .i64 le, .bool mo, .int .i64 nx, .slice OB ol o2] := by
    have h := heap_alloc_new (w.alloc (.cells #[.int .i64 fn, .int .i64 ex, .slice BA bl b1, .slice WA wl w1, .int .i64 at_, .int .i64 n, .int .u16 v, .int .u16 an, .int .u16 orr, .int .i64 co, .int .i64 le, .bool mo, .int .i64 nx, .slice OA ol o1] 31)) (.cells #[.int .i64 fn, .int .i64 ex, .slice BB bl b2, .slice WB wl w2, .int .i64 at_, .int .i64 n, .int .u16 v, .int .u16 an, .int .u16 orr, .int .i64 co, .int .i64 le, .bool mo, .int .i64 nx, .slice OB ol o2] 31)
    rw [show (w.alloc (.cells #[.int .i64 fn, .int .i64 ex, .slice BA bl b1, .slice WA wl w1, .int .i64 at_, .int .i64 n, .int .u16 v, .int .u16 an, .int .u16 orr, .int .i64 co, .int .i64 le, .bool mo, .int .i64 nx, .slice OA ol o1] 31)).heap.size = w.heap.size + 1 by simp, hX0] at h
    exact h
  have HK := Lib.hid hk
  have HA := Lib.hid hA
  have HB := Lib.hid hB
  have H1 := Lib.hid ((hb1.below hk).more hk.size)
  have H2 := Lib.hid ((hb2.below hk).more hk.size)
  have H3 := Lib.hid ((hw1.below hk).more hk.size)
  have H4 := Lib.hid ((hw2.below hk).more hk.size)
  have H5 := Lib.hid (ho1.below hk)
  have H6 := Lib.hid (ho2.below hk)
  have HX := Lib.hid hX0
  clear hb1 hb2 hw1 hw2 ho1 ho2 hk hA hB hX0
  go_enter Try.func14, Try.ntmps14
  go_wp2_with fail
  rw [HX.out]
  go_loopw [5] (fun i wr => ∃ k e : Nat, k ≤ ol ∧ i = .int .i64 (k : Int) ∧ Hid (wr = X0.drewN e)) (fun i _ => ol - (intOf i).toNat)
  case atStart => exact ⟨0, 0, by omega, rfl, Lib.hid rfl⟩
  case round =>
    obtain ⟨k, e, hk, rfl, HW⟩ := hrel
    have HAr : Hid (WholeV wr w.heap.size 31 [.int .i64 fn, .int .i64 ex, .slice BA bl b1, .slice WA wl w1, .int .i64 at_, .int .i64 n, .int .u16 v, .int .u16 an, .int .u16 orr, .int .i64 co, .int .i64 le, .bool mo, .int .i64 nx, .slice OA ol o1]) := by rw [HW.out]; exact HA
    have HBr : Hid (WholeV wr (w.heap.size + 1) 31 [.int .i64 fn, .int .i64 ex, .slice BB bl b2, .slice WB wl w2, .int .i64 at_, .int .i64 n, .int .u16 v, .int .u16 an, .int .u16 orr, .int .i64 co, .int .i64 le, .bool mo, .int .i64 nx, .slice OB ol o2]) := by rw [HW.out]; exact HB
    have H5r : Hid (OL wr wr.heap.size OA ol os) := by rw [HW.out]; exact H5
    have H6r : Hid (OL wr wr.heap.size OB ol os) := by rw [HW.out]; exact H6
    have ha13 := HAr.out.cell 13
    have hb13 := HBr.out.cell 13
    have hz1 : w.heap.size < wr.heap.size := HAr.out.lt
    by_cases hlt : k < ol
    · have hi : (k : Int) < (ol : Int) := by omega
      obtain ⟨bA, offA, hAA, hbA, hc1, hc2⟩ := H5r.out.at_ k hlt
      obtain ⟨bB, offB, hBB, hbB, hd1, hd2⟩ := H6r.out.at_ k hlt
      subst hAA hBB
      obtain ⟨x, hx⟩ : ∃ x, (os.getD k ob0).1 = x := ⟨_, rfl⟩
      obtain ⟨S, hS⟩ : ∃ S, (os.getD k ob0).2 = S := ⟨_, rfl⟩
      rw [hx] at hc1 hd1
      rw [hS] at hc2 hd2
      clear hx hS
      go_wp2
      go_quiet (fail)
      go_wp2
      go_roundw
      case rel => exact ⟨k + 1, _, by omega, by go_num, Lib.hid (drawn_to HW _)⟩
      case measure => simp [intOf]; omega
    · obtain rfl : ol = k := by omega
      have hd : decide (ol < ol) = false := by simp
      obtain ⟨hq0, hq1, hq2, hq3, hq4, hq5, hq6, hq7, hq8, hq9, hq10, hq11, hq12, hq13⟩ := cells14 HAr.out
      obtain ⟨hp0, hp1, hp2, hp3, hp4, hp5, hp6, hp7, hp8, hp9, hp10, hp11, hp12, hp13⟩ := cells14 HBr.out
      have HBW : Hid (Below w.heap.size w wr) := by rw [HW.out]; exact Lib.hid (below_drewN HK.out e)
      have C1 : Hid (BRow wr wr.heap.size BA bl bs) := by rw [HW.out]; exact H1
      have C2 : Hid (BRow wr wr.heap.size BB bl bs) := by rw [HW.out]; exact H2
      have C3 : Hid (∀ d, Row .u16 (wr.drewN d) (wr.drewN d).heap.size WA wl ws) := by rw [HW.out]; exact fun d => H3.out
      have C4 : Hid (∀ d, Row .u16 (wr.drewN d) (wr.drewN d).heap.size WB wl ws) := by rw [HW.out]; exact fun d => H4.out
      go_wp2_with (first
        | (go_at_call 42; (with_reducible refine (samebits5_yes BA BB bl b1 b2 bs _ C1.out C2.out hbl).mono ?_); rintro e w' ⟨rfl, d1, rfl⟩)
        | (go_at_call 43; (with_reducible refine (samewords_yes WA WB wl w1 w2 ws _ (C3.out _) (C4.out _) hwl).mono ?_); rintro e w' ⟨rfl, d2, rfl⟩))
      go_ret
      exact ⟨rfl, below_drewN HBW.out _⟩

end Go.Proofs.Ytokljdkbheogoaa

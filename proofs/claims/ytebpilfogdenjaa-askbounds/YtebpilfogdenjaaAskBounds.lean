/- Proved: for every four ints, busbarlaw5.AskBounds returns true. Conditions: none. -/
import Derived.Test.YtebpilfogdenjaaAwake5
import Derived.Test.YtebpilfogdenjaaPBytes
import Derived.Test.YtebpilfogdenjaaPFree
import Derived.Test.YtebpilfogdenjaaAskSame
import Derived.Test.YtebpilfogdenjaaLAsk
import Derived.Test.YtebpilfogdenjaaLentBits
import Derived.Test.YtebpilfogdenjaaLentWords
import Derived.Test.YtebpilfogdenjaaIndex
namespace Go.Proofs.Ytebpilfogdenjaa.askBounds
open Go.ChangeShapes Go.WideShapes Go.ChangeAt Go.RowKit
open Go.ChangeMaps (open_string shut_string)
set_option linter.unusedVariables false      -- a walk need not use every 'w<i>' (that an integer argument fits its kind)


theorem picked (M z o : Int) (o0 : 0 ≤ o) (o1 : o < 5) (m0 : 1 ≤ M) (z0 : 0 ≤ z) (z1 : z < M) : ∃ N : Int, #[Value.int .i64 0, .int .i64 1, .int .i64 M, .int .i64 (M + 1), .int .i64 (1 + z)][o.toNat]? = some (.int .i64 N) ∧ 0 ≤ N ∧ N ≤ M + 1 := by
  rcases (by omega : o = 0 ∨ o = 1 ∨ o = 2 ∨ o = 3 ∨ o = 4) with rfl | rfl | rfl | rfl | rfl
  · exact ⟨0, rfl, by omega, by omega⟩
  · exact ⟨1, rfl, by omega, by omega⟩
  · exact ⟨M, rfl, by omega, by omega⟩
  · exact ⟨M + 1, rfl, by omega, by omega⟩
  · exact ⟨1 + z, rfl, by omega, by omega⟩

set_option maxRecDepth 100000 in
set_option maxHeartbeats 2000000 in
theorem bounds_0_yes (a t n u M O z o N A : Int) (w : World) (a0 : -9223372036854775808 ≤ a) (a1 : a ≤ 9223372036854775807) (t0 : -9223372036854775808 ≤ t) (t1 : t ≤ 9223372036854775807) (n0 : -9223372036854775808 ≤ n) (n1 : n ≤ 9223372036854775807) (u0 : -9223372036854775808 ≤ u) (u1 : u ≤ 9223372036854775807) (hq : a % 8 = 0) (ho : u % 5 = o) (hM : kMostR 1 = M) (hO : kMostW 1 = O) (hz : n % M = z) (hA : t % 65536 = A) (hN : #[Value.int .i64 0, .int .i64 1, .int .i64 M, .int .i64 (M + 1), .int .i64 (1 + z)][o.toNat]? = some (.int .i64 N)) (N0 : 0 ≤ N) (N1 : N ≤ M + 1) (hfine : 1 ≤ N ∧ N ≤ M) :
    Calls Try.prog 6 #[.int .i64 a, .int .i64 t, .int .i64 n, .int .i64 u] w fun e w' => e = .returned (.bool true) ∧ Below w.heap.size w w' := by
  have m0 : 1 ≤ M := by rw [← hM]; decide
  have m1 : M ≤ 2000 := by rw [← hM]; decide
  have mo : 0 ≤ O := by rw [← hO]; decide
  have mo1 : O ≤ 2000 := by rw [← hO]; decide
  have z0 : 0 ≤ z := by rw [← hz]; exact Int.emod_nonneg _ (by omega)
  have z1 : z < M := by rw [← hz]; exact Int.emod_lt_of_pos _ (by omega)
  have o0 : 0 ≤ o := by omega
  have o1 : o < 5 := by omega
  have b0 : 0 ≤ A := by omega
  have b1 : A ≤ 65535 := by omega
  obtain ⟨k, hk⟩ : ∃ k : Nat, N = (k : Int) := ⟨N.toNat, by omega⟩
  have hrt : rightP 1 A N 0 0 0 0 0 0 0 0 0 := by
    refine ⟨rfl, ?_, by omega, by omega, ?_⟩
    · unfold plainP; omega
    · have x1 : kMostR 23 = 125 := rfl
      have x2 : kMostW 23 = 121 := rfl
      unfold fitsP; omega
  have hwd : Wide A N 0 0 0 0 0 0 0 := wide_of (by omega) (by omega) (by omega) (by omega) (by omega) (by omega) (by omega) (by omega) (by omega)
  have hix48 : ∀ W : World, (Instr.index 44 (.agg #[.int .i64 1, .int .i64 2, .int .i64 3, .int .i64 4, .int .i64 15, .int .i64 16, .int .i64 23, .int .i64 23]) (.int .i64 0)).run Try.prog W = .ok (.int .i64 1) W := fun W => run_index_ints _ 8 _ 0 _ W Try.underlying44 (by omega) (by omega) rfl
  have hix51 : ∀ W : World, (Instr.index 47 (.agg #[.int .i64 0, .int .i64 1, .int .i64 M, .int .i64 (M + 1), .int .i64 (1 + z)]) (.int .i64 o)).run Try.prog W = .ok (.int .i64 N) W := fun W => run_index_ints _ 5 _ o _ W Try.underlying47 o0 o1 hN
  have HQ := Lib.hid hq
  have HO := Lib.hid ho
  have HMR : Hid (kMostR 1 = M) := hM
  have HMW : Hid (kMostW 1 = O) := hO
  have HZ := Lib.hid hz
  have HA := Lib.hid hA
  have HK := Lib.hid hk
  have HRt := Lib.hid hrt
  have HWd := Lib.hid hwd
  clear hq ho hM hO hz hA hk hrt hwd hN
  have wz : IntKind.i64.wrap (1 + z) = 1 + z := IntWalk.i64_in _ (by omega)
  have wm : IntKind.i64.wrap (M + 1) = M + 1 := IntWalk.i64_in _ (by omega)
  have hmx : max O 0 = O := by omega
  obtain ⟨g0, g1⟩ := hfine
  go_enter Try.func6, Try.ntmps6
  go_wp2_with fail
  refine (awake_any _).mono ?_
  rintro e w1 ⟨rfl, hb1⟩
  have HB1 := Lib.hid hb1
  clear hb1
  go_wp2_with (first
    | (go_at_call 9; (with_reducible refine (within_lit a 8 0 _ HQ.out a0 a1 (by omega) (by omega)).mono ?_); rintro e w' ⟨rfl, rfl⟩)
    | (go_at_call 18; (with_reducible refine (most_lit 1 _ _ _ HMR.out HMW.out).mono ?_); rintro e w' ⟨rfl, rfl⟩)
    | (go_at_call 9; (with_reducible refine (within_lit n M z _ HZ.out n0 n1 (by omega) (by omega)).mono ?_); rintro e w' ⟨rfl, rfl⟩)
    | (go_at_call 9; (with_reducible refine (within_lit u 5 o _ HO.out u0 u1 (by omega) (by omega)).mono ?_); rintro e w' ⟨rfl, rfl⟩)
    | (go_at_call 9; (with_reducible refine (within_lit t 65536 A _ HA.out t0 t1 (by omega) (by omega)).mono ?_); rintro e w' ⟨rfl, rfl⟩))
  obtain ⟨X, hX⟩ : ∃ X, w1.alloc (.cells #[.int .i64 1, .int .i64 A, .int .i64 N, .int .u16 0, .int .u16 0, .int .u16 0, .slice none 0 0, .slice none 0 0, .int .i64 0, .int .i64 0, .int .i64 0, .int .i64 0] 30) = X := ⟨_, rfl⟩
  have hs1 : (w1.alloc (.cells #[.int .i64 1, .int .i64 A, .int .i64 N, .int .u16 0, .int .u16 0, .int .u16 0, .slice none 0 0, .slice none 0 0, .int .i64 0, .int .i64 0, .int .i64 0, .int .i64 0] 30)).heap.size = w1.heap.size + 1 := by simp
  have h1a : WholeV (w1.alloc (.cells #[.int .i64 1, .int .i64 A, .int .i64 N, .int .u16 0, .int .u16 0, .int .u16 0, .slice none 0 0, .slice none 0 0, .int .i64 0, .int .i64 0, .int .i64 0, .int .i64 0] 30)) w1.heap.size 30 [.int .i64 1, .int .i64 A, .int .i64 N, .int .u16 0, .int .u16 0, .int .u16 0, .slice none 0 0, .slice none 0 0, .int .i64 0, .int .i64 0, .int .i64 0, .int .i64 0] := heap_alloc_new w1 _
  have h1 : WholeV X w1.heap.size 30 [.int .i64 1, .int .i64 A, .int .i64 N, .int .u16 0, .int .u16 0, .int .u16 0, .slice none 0 0, .slice none 0 0, .int .i64 0, .int .i64 0, .int .i64 0, .int .i64 0] := by rw [← hX]; exact h1a
  have hbx : Below w.heap.size w X := by rw [← hX]; exact HB1.out.alloc HB1.out.size _
  rw [hX]
  have H1 := Lib.hid h1
  have HBX := Lib.hid hbx
  have hlt1 : w1.heap.size < X.heap.size := h1.lt
  obtain ⟨hy0, hy1, hy2, hy3, hy4, hy5, hy6, hy7, hy8, hy9, hy10, hy11⟩ := cells12 h1
  clear hX hs1 h1a h1 hbx
  refine (pbytes_yes 1 A N 0 0 0 [] [] 0 0 0 0 none none 0 0 0 0 _ HWd.out HRt.out BRow.nil (Row.nil _ _ _ _) words_nil).mono ?_
  rintro e w3 ⟨C, cap, rfl, ho, hb3'⟩
  have hb3 : Below X.heap.size X w3 := hb3'
  have hrl : rightP 1 A N 0 0 0 ([] : List Bool).length ([] : List Int).length 0 0 0 0 := HRt.out
  have HRl := Lib.hid hrl
  clear hrl
  rw [show (enc 1 A N 0 0 0 [] [] 0 0 0 0).length = 5 by rw [enc_read _ _ _ _ _ _ _ _ _ _ _ _ (by omega)]; rfl]
  have h3 := H1.out.below hb3 H1.out.lt
  have HB3 := Lib.hid (HBX.out.trans (hb3.mono HBX.out.size))
  obtain ⟨hq0, hq1, hq2, hq3, hq4, hq5, hq6, hq7, hq8, hq9, hq10, hq11⟩ := cells12 h3
  clear hb3 hb3' h3
  go_wp2_with fail
  refine (pright_yes 1 A N 0 0 0 0 0 0 0 0 0 none none 0 0 _ HWd.out HRt.out).mono ?_
  rintro e w4 ⟨rfl, hb4⟩
  have HB4 := Lib.hid (HB3.out.trans (hb4.mono HB3.out.size))
  clear hb4
  go_wp2
  go_ret
  exact ⟨rfl, HB4.out⟩

set_option maxRecDepth 100000 in
set_option maxHeartbeats 2000000 in
theorem bounds_0_low (a t n u M O z o N A : Int) (w : World) (a0 : -9223372036854775808 ≤ a) (a1 : a ≤ 9223372036854775807) (t0 : -9223372036854775808 ≤ t) (t1 : t ≤ 9223372036854775807) (n0 : -9223372036854775808 ≤ n) (n1 : n ≤ 9223372036854775807) (u0 : -9223372036854775808 ≤ u) (u1 : u ≤ 9223372036854775807) (hq : a % 8 = 0) (ho : u % 5 = o) (hM : kMostR 1 = M) (hO : kMostW 1 = O) (hz : n % M = z) (hA : t % 65536 = A) (hN : #[Value.int .i64 0, .int .i64 1, .int .i64 M, .int .i64 (M + 1), .int .i64 (1 + z)][o.toNat]? = some (.int .i64 N)) (N0 : 0 ≤ N) (N1 : N ≤ M + 1) (hfine : N < 1) :
    Calls Try.prog 6 #[.int .i64 a, .int .i64 t, .int .i64 n, .int .i64 u] w fun e w' => e = .returned (.bool true) ∧ Below w.heap.size w w' := by
  have m0 : 1 ≤ M := by rw [← hM]; decide
  have m1 : M ≤ 2000 := by rw [← hM]; decide
  have mo : 0 ≤ O := by rw [← hO]; decide
  have mo1 : O ≤ 2000 := by rw [← hO]; decide
  have z0 : 0 ≤ z := by rw [← hz]; exact Int.emod_nonneg _ (by omega)
  have z1 : z < M := by rw [← hz]; exact Int.emod_lt_of_pos _ (by omega)
  have o0 : 0 ≤ o := by omega
  have o1 : o < 5 := by omega
  have b0 : 0 ≤ A := by omega
  have b1 : A ≤ 65535 := by omega
  obtain ⟨k, hk⟩ : ∃ k : Nat, N = (k : Int) := ⟨N.toNat, by omega⟩
  have hrt : ¬ rightP 1 A N 0 0 0 0 0 0 0 0 0 := by
    intro h
    have h5 := h.2.2.2.2
    unfold fitsP at h5
    omega
  have hwd : Wide A N 0 0 0 0 0 0 0 := wide_of (by omega) (by omega) (by omega) (by omega) (by omega) (by omega) (by omega) (by omega) (by omega)
  have hix48 : ∀ W : World, (Instr.index 44 (.agg #[.int .i64 1, .int .i64 2, .int .i64 3, .int .i64 4, .int .i64 15, .int .i64 16, .int .i64 23, .int .i64 23]) (.int .i64 0)).run Try.prog W = .ok (.int .i64 1) W := fun W => run_index_ints _ 8 _ 0 _ W Try.underlying44 (by omega) (by omega) rfl
  have hix51 : ∀ W : World, (Instr.index 47 (.agg #[.int .i64 0, .int .i64 1, .int .i64 M, .int .i64 (M + 1), .int .i64 (1 + z)]) (.int .i64 o)).run Try.prog W = .ok (.int .i64 N) W := fun W => run_index_ints _ 5 _ o _ W Try.underlying47 o0 o1 hN
  have HQ := Lib.hid hq
  have HO := Lib.hid ho
  have HMR : Hid (kMostR 1 = M) := hM
  have HMW : Hid (kMostW 1 = O) := hO
  have HZ := Lib.hid hz
  have HA := Lib.hid hA
  have HK := Lib.hid hk
  have HRt := Lib.hid hrt
  have HWd := Lib.hid hwd
  clear hq ho hM hO hz hA hk hrt hwd hN
  have wz : IntKind.i64.wrap (1 + z) = 1 + z := IntWalk.i64_in _ (by omega)
  have wm : IntKind.i64.wrap (M + 1) = M + 1 := IntWalk.i64_in _ (by omega)
  have hmx : max O 0 = O := by omega
  have hd : decide (1 ≤ N) = false := by simp; omega
  go_enter Try.func6, Try.ntmps6
  go_wp2_with fail
  refine (awake_any _).mono ?_
  rintro e w1 ⟨rfl, hb1⟩
  have HB1 := Lib.hid hb1
  clear hb1
  go_wp2_with (first
    | (go_at_call 9; (with_reducible refine (within_lit a 8 0 _ HQ.out a0 a1 (by omega) (by omega)).mono ?_); rintro e w' ⟨rfl, rfl⟩)
    | (go_at_call 18; (with_reducible refine (most_lit 1 _ _ _ HMR.out HMW.out).mono ?_); rintro e w' ⟨rfl, rfl⟩)
    | (go_at_call 9; (with_reducible refine (within_lit n M z _ HZ.out n0 n1 (by omega) (by omega)).mono ?_); rintro e w' ⟨rfl, rfl⟩)
    | (go_at_call 9; (with_reducible refine (within_lit u 5 o _ HO.out u0 u1 (by omega) (by omega)).mono ?_); rintro e w' ⟨rfl, rfl⟩)
    | (go_at_call 9; (with_reducible refine (within_lit t 65536 A _ HA.out t0 t1 (by omega) (by omega)).mono ?_); rintro e w' ⟨rfl, rfl⟩))
  obtain ⟨X, hX⟩ : ∃ X, w1.alloc (.cells #[.int .i64 1, .int .i64 A, .int .i64 N, .int .u16 0, .int .u16 0, .int .u16 0, .slice none 0 0, .slice none 0 0, .int .i64 0, .int .i64 0, .int .i64 0, .int .i64 0] 30) = X := ⟨_, rfl⟩
  have hs1 : (w1.alloc (.cells #[.int .i64 1, .int .i64 A, .int .i64 N, .int .u16 0, .int .u16 0, .int .u16 0, .slice none 0 0, .slice none 0 0, .int .i64 0, .int .i64 0, .int .i64 0, .int .i64 0] 30)).heap.size = w1.heap.size + 1 := by simp
  have h1a : WholeV (w1.alloc (.cells #[.int .i64 1, .int .i64 A, .int .i64 N, .int .u16 0, .int .u16 0, .int .u16 0, .slice none 0 0, .slice none 0 0, .int .i64 0, .int .i64 0, .int .i64 0, .int .i64 0] 30)) w1.heap.size 30 [.int .i64 1, .int .i64 A, .int .i64 N, .int .u16 0, .int .u16 0, .int .u16 0, .slice none 0 0, .slice none 0 0, .int .i64 0, .int .i64 0, .int .i64 0, .int .i64 0] := heap_alloc_new w1 _
  have h1 : WholeV X w1.heap.size 30 [.int .i64 1, .int .i64 A, .int .i64 N, .int .u16 0, .int .u16 0, .int .u16 0, .slice none 0 0, .slice none 0 0, .int .i64 0, .int .i64 0, .int .i64 0, .int .i64 0] := by rw [← hX]; exact h1a
  have hbx : Below w.heap.size w X := by rw [← hX]; exact HB1.out.alloc HB1.out.size _
  rw [hX]
  have H1 := Lib.hid h1
  have HBX := Lib.hid hbx
  have hlt1 : w1.heap.size < X.heap.size := h1.lt
  obtain ⟨hy0, hy1, hy2, hy3, hy4, hy5, hy6, hy7, hy8, hy9, hy10, hy11⟩ := cells12 h1
  clear hX hs1 h1a h1 hbx
  refine (pbytes_no 1 A N 0 0 0 0 0 0 0 0 0 none none 0 0 _ HWd.out HRt.out).mono ?_
  rintro e w3 ⟨rfl, hb3'⟩
  have hb3 : Below X.heap.size X w3 := hb3'
  have h3 := H1.out.below hb3 H1.out.lt
  have HB3 := Lib.hid (HBX.out.trans (hb3.mono HBX.out.size))
  obtain ⟨hq0, hq1, hq2, hq3, hq4, hq5, hq6, hq7, hq8, hq9, hq10, hq11⟩ := cells12 h3
  clear hb3 hb3' h3
  go_wp2_with fail
  refine (pright_no 1 A N 0 0 0 0 0 0 0 0 0 none none 0 0 _ HWd.out HRt.out).mono ?_
  rintro e w4 ⟨rfl, hb4⟩
  have HB4 := Lib.hid (HB3.out.trans (hb4.mono HB3.out.size))
  clear hb4
  go_wp2
  go_ret
  exact ⟨rfl, HB4.out⟩

set_option maxRecDepth 100000 in
set_option maxHeartbeats 2000000 in
theorem bounds_0_high (a t n u M O z o N A : Int) (w : World) (a0 : -9223372036854775808 ≤ a) (a1 : a ≤ 9223372036854775807) (t0 : -9223372036854775808 ≤ t) (t1 : t ≤ 9223372036854775807) (n0 : -9223372036854775808 ≤ n) (n1 : n ≤ 9223372036854775807) (u0 : -9223372036854775808 ≤ u) (u1 : u ≤ 9223372036854775807) (hq : a % 8 = 0) (ho : u % 5 = o) (hM : kMostR 1 = M) (hO : kMostW 1 = O) (hz : n % M = z) (hA : t % 65536 = A) (hN : #[Value.int .i64 0, .int .i64 1, .int .i64 M, .int .i64 (M + 1), .int .i64 (1 + z)][o.toNat]? = some (.int .i64 N)) (N0 : 0 ≤ N) (N1 : N ≤ M + 1) (hfine : M < N) :
    Calls Try.prog 6 #[.int .i64 a, .int .i64 t, .int .i64 n, .int .i64 u] w fun e w' => e = .returned (.bool true) ∧ Below w.heap.size w w' := by
  have m0 : 1 ≤ M := by rw [← hM]; decide
  have m1 : M ≤ 2000 := by rw [← hM]; decide
  have mo : 0 ≤ O := by rw [← hO]; decide
  have mo1 : O ≤ 2000 := by rw [← hO]; decide
  have z0 : 0 ≤ z := by rw [← hz]; exact Int.emod_nonneg _ (by omega)
  have z1 : z < M := by rw [← hz]; exact Int.emod_lt_of_pos _ (by omega)
  have o0 : 0 ≤ o := by omega
  have o1 : o < 5 := by omega
  have b0 : 0 ≤ A := by omega
  have b1 : A ≤ 65535 := by omega
  obtain ⟨k, hk⟩ : ∃ k : Nat, N = (k : Int) := ⟨N.toNat, by omega⟩
  have hrt : ¬ rightP 1 A N 0 0 0 0 0 0 0 0 0 := by
    intro h
    have h5 := h.2.2.2.2
    unfold fitsP at h5
    omega
  have hwd : Wide A N 0 0 0 0 0 0 0 := wide_of (by omega) (by omega) (by omega) (by omega) (by omega) (by omega) (by omega) (by omega) (by omega)
  have hix48 : ∀ W : World, (Instr.index 44 (.agg #[.int .i64 1, .int .i64 2, .int .i64 3, .int .i64 4, .int .i64 15, .int .i64 16, .int .i64 23, .int .i64 23]) (.int .i64 0)).run Try.prog W = .ok (.int .i64 1) W := fun W => run_index_ints _ 8 _ 0 _ W Try.underlying44 (by omega) (by omega) rfl
  have hix51 : ∀ W : World, (Instr.index 47 (.agg #[.int .i64 0, .int .i64 1, .int .i64 M, .int .i64 (M + 1), .int .i64 (1 + z)]) (.int .i64 o)).run Try.prog W = .ok (.int .i64 N) W := fun W => run_index_ints _ 5 _ o _ W Try.underlying47 o0 o1 hN
  have HQ := Lib.hid hq
  have HO := Lib.hid ho
  have HMR : Hid (kMostR 1 = M) := hM
  have HMW : Hid (kMostW 1 = O) := hO
  have HZ := Lib.hid hz
  have HA := Lib.hid hA
  have HK := Lib.hid hk
  have HRt := Lib.hid hrt
  have HWd := Lib.hid hwd
  clear hq ho hM hO hz hA hk hrt hwd hN
  have wz : IntKind.i64.wrap (1 + z) = 1 + z := IntWalk.i64_in _ (by omega)
  have wm : IntKind.i64.wrap (M + 1) = M + 1 := IntWalk.i64_in _ (by omega)
  have hmx : max O 0 = O := by omega
  have g0 : 1 ≤ N := by omega
  have hd : decide (N ≤ M) = false := by simp; omega
  go_enter Try.func6, Try.ntmps6
  go_wp2_with fail
  refine (awake_any _).mono ?_
  rintro e w1 ⟨rfl, hb1⟩
  have HB1 := Lib.hid hb1
  clear hb1
  go_wp2_with (first
    | (go_at_call 9; (with_reducible refine (within_lit a 8 0 _ HQ.out a0 a1 (by omega) (by omega)).mono ?_); rintro e w' ⟨rfl, rfl⟩)
    | (go_at_call 18; (with_reducible refine (most_lit 1 _ _ _ HMR.out HMW.out).mono ?_); rintro e w' ⟨rfl, rfl⟩)
    | (go_at_call 9; (with_reducible refine (within_lit n M z _ HZ.out n0 n1 (by omega) (by omega)).mono ?_); rintro e w' ⟨rfl, rfl⟩)
    | (go_at_call 9; (with_reducible refine (within_lit u 5 o _ HO.out u0 u1 (by omega) (by omega)).mono ?_); rintro e w' ⟨rfl, rfl⟩)
    | (go_at_call 9; (with_reducible refine (within_lit t 65536 A _ HA.out t0 t1 (by omega) (by omega)).mono ?_); rintro e w' ⟨rfl, rfl⟩))
  obtain ⟨X, hX⟩ : ∃ X, w1.alloc (.cells #[.int .i64 1, .int .i64 A, .int .i64 N, .int .u16 0, .int .u16 0, .int .u16 0, .slice none 0 0, .slice none 0 0, .int .i64 0, .int .i64 0, .int .i64 0, .int .i64 0] 30) = X := ⟨_, rfl⟩
  have hs1 : (w1.alloc (.cells #[.int .i64 1, .int .i64 A, .int .i64 N, .int .u16 0, .int .u16 0, .int .u16 0, .slice none 0 0, .slice none 0 0, .int .i64 0, .int .i64 0, .int .i64 0, .int .i64 0] 30)).heap.size = w1.heap.size + 1 := by simp
  have h1a : WholeV (w1.alloc (.cells #[.int .i64 1, .int .i64 A, .int .i64 N, .int .u16 0, .int .u16 0, .int .u16 0, .slice none 0 0, .slice none 0 0, .int .i64 0, .int .i64 0, .int .i64 0, .int .i64 0] 30)) w1.heap.size 30 [.int .i64 1, .int .i64 A, .int .i64 N, .int .u16 0, .int .u16 0, .int .u16 0, .slice none 0 0, .slice none 0 0, .int .i64 0, .int .i64 0, .int .i64 0, .int .i64 0] := heap_alloc_new w1 _
  have h1 : WholeV X w1.heap.size 30 [.int .i64 1, .int .i64 A, .int .i64 N, .int .u16 0, .int .u16 0, .int .u16 0, .slice none 0 0, .slice none 0 0, .int .i64 0, .int .i64 0, .int .i64 0, .int .i64 0] := by rw [← hX]; exact h1a
  have hbx : Below w.heap.size w X := by rw [← hX]; exact HB1.out.alloc HB1.out.size _
  rw [hX]
  have H1 := Lib.hid h1
  have HBX := Lib.hid hbx
  have hlt1 : w1.heap.size < X.heap.size := h1.lt
  obtain ⟨hy0, hy1, hy2, hy3, hy4, hy5, hy6, hy7, hy8, hy9, hy10, hy11⟩ := cells12 h1
  clear hX hs1 h1a h1 hbx
  refine (pbytes_no 1 A N 0 0 0 0 0 0 0 0 0 none none 0 0 _ HWd.out HRt.out).mono ?_
  rintro e w3 ⟨rfl, hb3'⟩
  have hb3 : Below X.heap.size X w3 := hb3'
  have h3 := H1.out.below hb3 H1.out.lt
  have HB3 := Lib.hid (HBX.out.trans (hb3.mono HBX.out.size))
  obtain ⟨hq0, hq1, hq2, hq3, hq4, hq5, hq6, hq7, hq8, hq9, hq10, hq11⟩ := cells12 h3
  clear hb3 hb3' h3
  go_wp2_with fail
  refine (pright_no 1 A N 0 0 0 0 0 0 0 0 0 none none 0 0 _ HWd.out HRt.out).mono ?_
  rintro e w4 ⟨rfl, hb4⟩
  have HB4 := Lib.hid (HB3.out.trans (hb4.mono HB3.out.size))
  clear hb4
  go_wp2
  go_ret
  exact ⟨rfl, HB4.out⟩

set_option maxRecDepth 100000 in
set_option maxHeartbeats 2000000 in
theorem bounds_1_yes (a t n u M O z o N A : Int) (w : World) (a0 : -9223372036854775808 ≤ a) (a1 : a ≤ 9223372036854775807) (t0 : -9223372036854775808 ≤ t) (t1 : t ≤ 9223372036854775807) (n0 : -9223372036854775808 ≤ n) (n1 : n ≤ 9223372036854775807) (u0 : -9223372036854775808 ≤ u) (u1 : u ≤ 9223372036854775807) (hq : a % 8 = 1) (ho : u % 5 = o) (hM : kMostR 2 = M) (hO : kMostW 2 = O) (hz : n % M = z) (hA : t % 65536 = A) (hN : #[Value.int .i64 0, .int .i64 1, .int .i64 M, .int .i64 (M + 1), .int .i64 (1 + z)][o.toNat]? = some (.int .i64 N)) (N0 : 0 ≤ N) (N1 : N ≤ M + 1) (hfine : 1 ≤ N ∧ N ≤ M) :
    Calls Try.prog 6 #[.int .i64 a, .int .i64 t, .int .i64 n, .int .i64 u] w fun e w' => e = .returned (.bool true) ∧ Below w.heap.size w w' := by
  have m0 : 1 ≤ M := by rw [← hM]; decide
  have m1 : M ≤ 2000 := by rw [← hM]; decide
  have mo : 0 ≤ O := by rw [← hO]; decide
  have mo1 : O ≤ 2000 := by rw [← hO]; decide
  have z0 : 0 ≤ z := by rw [← hz]; exact Int.emod_nonneg _ (by omega)
  have z1 : z < M := by rw [← hz]; exact Int.emod_lt_of_pos _ (by omega)
  have o0 : 0 ≤ o := by omega
  have o1 : o < 5 := by omega
  have b0 : 0 ≤ A := by omega
  have b1 : A ≤ 65535 := by omega
  obtain ⟨k, hk⟩ : ∃ k : Nat, N = (k : Int) := ⟨N.toNat, by omega⟩
  have hrt : rightP 2 A N 0 0 0 0 0 0 0 0 0 := by
    refine ⟨rfl, ?_, by omega, by omega, ?_⟩
    · unfold plainP; omega
    · have x1 : kMostR 23 = 125 := rfl
      have x2 : kMostW 23 = 121 := rfl
      unfold fitsP; omega
  have hwd : Wide A N 0 0 0 0 0 0 0 := wide_of (by omega) (by omega) (by omega) (by omega) (by omega) (by omega) (by omega) (by omega) (by omega)
  have hix48 : ∀ W : World, (Instr.index 44 (.agg #[.int .i64 1, .int .i64 2, .int .i64 3, .int .i64 4, .int .i64 15, .int .i64 16, .int .i64 23, .int .i64 23]) (.int .i64 1)).run Try.prog W = .ok (.int .i64 2) W := fun W => run_index_ints _ 8 _ 1 _ W Try.underlying44 (by omega) (by omega) rfl
  have hix51 : ∀ W : World, (Instr.index 47 (.agg #[.int .i64 0, .int .i64 1, .int .i64 M, .int .i64 (M + 1), .int .i64 (1 + z)]) (.int .i64 o)).run Try.prog W = .ok (.int .i64 N) W := fun W => run_index_ints _ 5 _ o _ W Try.underlying47 o0 o1 hN
  have HQ := Lib.hid hq
  have HO := Lib.hid ho
  have HMR : Hid (kMostR 2 = M) := hM
  have HMW : Hid (kMostW 2 = O) := hO
  have HZ := Lib.hid hz
  have HA := Lib.hid hA
  have HK := Lib.hid hk
  have HRt := Lib.hid hrt
  have HWd := Lib.hid hwd
  clear hq ho hM hO hz hA hk hrt hwd hN
  have wz : IntKind.i64.wrap (1 + z) = 1 + z := IntWalk.i64_in _ (by omega)
  have wm : IntKind.i64.wrap (M + 1) = M + 1 := IntWalk.i64_in _ (by omega)
  have hmx : max O 0 = O := by omega
  obtain ⟨g0, g1⟩ := hfine
  go_enter Try.func6, Try.ntmps6
  go_wp2_with fail
  refine (awake_any _).mono ?_
  rintro e w1 ⟨rfl, hb1⟩
  have HB1 := Lib.hid hb1
  clear hb1
  go_wp2_with (first
    | (go_at_call 9; (with_reducible refine (within_lit a 8 1 _ HQ.out a0 a1 (by omega) (by omega)).mono ?_); rintro e w' ⟨rfl, rfl⟩)
    | (go_at_call 18; (with_reducible refine (most_lit 2 _ _ _ HMR.out HMW.out).mono ?_); rintro e w' ⟨rfl, rfl⟩)
    | (go_at_call 9; (with_reducible refine (within_lit n M z _ HZ.out n0 n1 (by omega) (by omega)).mono ?_); rintro e w' ⟨rfl, rfl⟩)
    | (go_at_call 9; (with_reducible refine (within_lit u 5 o _ HO.out u0 u1 (by omega) (by omega)).mono ?_); rintro e w' ⟨rfl, rfl⟩)
    | (go_at_call 9; (with_reducible refine (within_lit t 65536 A _ HA.out t0 t1 (by omega) (by omega)).mono ?_); rintro e w' ⟨rfl, rfl⟩))
  obtain ⟨X, hX⟩ : ∃ X, w1.alloc (.cells #[.int .i64 2, .int .i64 A, .int .i64 N, .int .u16 0, .int .u16 0, .int .u16 0, .slice none 0 0, .slice none 0 0, .int .i64 0, .int .i64 0, .int .i64 0, .int .i64 0] 30) = X := ⟨_, rfl⟩
  have hs1 : (w1.alloc (.cells #[.int .i64 2, .int .i64 A, .int .i64 N, .int .u16 0, .int .u16 0, .int .u16 0, .slice none 0 0, .slice none 0 0, .int .i64 0, .int .i64 0, .int .i64 0, .int .i64 0] 30)).heap.size = w1.heap.size + 1 := by simp
  have h1a : WholeV (w1.alloc (.cells #[.int .i64 2, .int .i64 A, .int .i64 N, .int .u16 0, .int .u16 0, .int .u16 0, .slice none 0 0, .slice none 0 0, .int .i64 0, .int .i64 0, .int .i64 0, .int .i64 0] 30)) w1.heap.size 30 [.int .i64 2, .int .i64 A, .int .i64 N, .int .u16 0, .int .u16 0, .int .u16 0, .slice none 0 0, .slice none 0 0, .int .i64 0, .int .i64 0, .int .i64 0, .int .i64 0] := heap_alloc_new w1 _
  have h1 : WholeV X w1.heap.size 30 [.int .i64 2, .int .i64 A, .int .i64 N, .int .u16 0, .int .u16 0, .int .u16 0, .slice none 0 0, .slice none 0 0, .int .i64 0, .int .i64 0, .int .i64 0, .int .i64 0] := by rw [← hX]; exact h1a
  have hbx : Below w.heap.size w X := by rw [← hX]; exact HB1.out.alloc HB1.out.size _
  rw [hX]
  have H1 := Lib.hid h1
  have HBX := Lib.hid hbx
  have hlt1 : w1.heap.size < X.heap.size := h1.lt
  obtain ⟨hy0, hy1, hy2, hy3, hy4, hy5, hy6, hy7, hy8, hy9, hy10, hy11⟩ := cells12 h1
  clear hX hs1 h1a h1 hbx
  refine (pbytes_yes 2 A N 0 0 0 [] [] 0 0 0 0 none none 0 0 0 0 _ HWd.out HRt.out BRow.nil (Row.nil _ _ _ _) words_nil).mono ?_
  rintro e w3 ⟨C, cap, rfl, ho, hb3'⟩
  have hb3 : Below X.heap.size X w3 := hb3'
  have hrl : rightP 2 A N 0 0 0 ([] : List Bool).length ([] : List Int).length 0 0 0 0 := HRt.out
  have HRl := Lib.hid hrl
  clear hrl
  rw [show (enc 2 A N 0 0 0 [] [] 0 0 0 0).length = 5 by rw [enc_read _ _ _ _ _ _ _ _ _ _ _ _ (by omega)]; rfl]
  have h3 := H1.out.below hb3 H1.out.lt
  have HB3 := Lib.hid (HBX.out.trans (hb3.mono HBX.out.size))
  obtain ⟨hq0, hq1, hq2, hq3, hq4, hq5, hq6, hq7, hq8, hq9, hq10, hq11⟩ := cells12 h3
  clear hb3 hb3' h3
  go_wp2_with fail
  refine (pright_yes 2 A N 0 0 0 0 0 0 0 0 0 none none 0 0 _ HWd.out HRt.out).mono ?_
  rintro e w4 ⟨rfl, hb4⟩
  have HB4 := Lib.hid (HB3.out.trans (hb4.mono HB3.out.size))
  clear hb4
  go_wp2
  go_ret
  exact ⟨rfl, HB4.out⟩

set_option maxRecDepth 100000 in
set_option maxHeartbeats 2000000 in
theorem bounds_1_low (a t n u M O z o N A : Int) (w : World) (a0 : -9223372036854775808 ≤ a) (a1 : a ≤ 9223372036854775807) (t0 : -9223372036854775808 ≤ t) (t1 : t ≤ 9223372036854775807) (n0 : -9223372036854775808 ≤ n) (n1 : n ≤ 9223372036854775807) (u0 : -9223372036854775808 ≤ u) (u1 : u ≤ 9223372036854775807) (hq : a % 8 = 1) (ho : u % 5 = o) (hM : kMostR 2 = M) (hO : kMostW 2 = O) (hz : n % M = z) (hA : t % 65536 = A) (hN : #[Value.int .i64 0, .int .i64 1, .int .i64 M, .int .i64 (M + 1), .int .i64 (1 + z)][o.toNat]? = some (.int .i64 N)) (N0 : 0 ≤ N) (N1 : N ≤ M + 1) (hfine : N < 1) :
    Calls Try.prog 6 #[.int .i64 a, .int .i64 t, .int .i64 n, .int .i64 u] w fun e w' => e = .returned (.bool true) ∧ Below w.heap.size w w' := by
  have m0 : 1 ≤ M := by rw [← hM]; decide
  have m1 : M ≤ 2000 := by rw [← hM]; decide
  have mo : 0 ≤ O := by rw [← hO]; decide
  have mo1 : O ≤ 2000 := by rw [← hO]; decide
  have z0 : 0 ≤ z := by rw [← hz]; exact Int.emod_nonneg _ (by omega)
  have z1 : z < M := by rw [← hz]; exact Int.emod_lt_of_pos _ (by omega)
  have o0 : 0 ≤ o := by omega
  have o1 : o < 5 := by omega
  have b0 : 0 ≤ A := by omega
  have b1 : A ≤ 65535 := by omega
  obtain ⟨k, hk⟩ : ∃ k : Nat, N = (k : Int) := ⟨N.toNat, by omega⟩
  have hrt : ¬ rightP 2 A N 0 0 0 0 0 0 0 0 0 := by
    intro h
    have h5 := h.2.2.2.2
    unfold fitsP at h5
    omega
  have hwd : Wide A N 0 0 0 0 0 0 0 := wide_of (by omega) (by omega) (by omega) (by omega) (by omega) (by omega) (by omega) (by omega) (by omega)
  have hix48 : ∀ W : World, (Instr.index 44 (.agg #[.int .i64 1, .int .i64 2, .int .i64 3, .int .i64 4, .int .i64 15, .int .i64 16, .int .i64 23, .int .i64 23]) (.int .i64 1)).run Try.prog W = .ok (.int .i64 2) W := fun W => run_index_ints _ 8 _ 1 _ W Try.underlying44 (by omega) (by omega) rfl
  have hix51 : ∀ W : World, (Instr.index 47 (.agg #[.int .i64 0, .int .i64 1, .int .i64 M, .int .i64 (M + 1), .int .i64 (1 + z)]) (.int .i64 o)).run Try.prog W = .ok (.int .i64 N) W := fun W => run_index_ints _ 5 _ o _ W Try.underlying47 o0 o1 hN
  have HQ := Lib.hid hq
  have HO := Lib.hid ho
  have HMR : Hid (kMostR 2 = M) := hM
  have HMW : Hid (kMostW 2 = O) := hO
  have HZ := Lib.hid hz
  have HA := Lib.hid hA
  have HK := Lib.hid hk
  have HRt := Lib.hid hrt
  have HWd := Lib.hid hwd
  clear hq ho hM hO hz hA hk hrt hwd hN
  have wz : IntKind.i64.wrap (1 + z) = 1 + z := IntWalk.i64_in _ (by omega)
  have wm : IntKind.i64.wrap (M + 1) = M + 1 := IntWalk.i64_in _ (by omega)
  have hmx : max O 0 = O := by omega
  have hd : decide (1 ≤ N) = false := by simp; omega
  go_enter Try.func6, Try.ntmps6
  go_wp2_with fail
  refine (awake_any _).mono ?_
  rintro e w1 ⟨rfl, hb1⟩
  have HB1 := Lib.hid hb1
  clear hb1
  go_wp2_with (first
    | (go_at_call 9; (with_reducible refine (within_lit a 8 1 _ HQ.out a0 a1 (by omega) (by omega)).mono ?_); rintro e w' ⟨rfl, rfl⟩)
    | (go_at_call 18; (with_reducible refine (most_lit 2 _ _ _ HMR.out HMW.out).mono ?_); rintro e w' ⟨rfl, rfl⟩)
    | (go_at_call 9; (with_reducible refine (within_lit n M z _ HZ.out n0 n1 (by omega) (by omega)).mono ?_); rintro e w' ⟨rfl, rfl⟩)
    | (go_at_call 9; (with_reducible refine (within_lit u 5 o _ HO.out u0 u1 (by omega) (by omega)).mono ?_); rintro e w' ⟨rfl, rfl⟩)
    | (go_at_call 9; (with_reducible refine (within_lit t 65536 A _ HA.out t0 t1 (by omega) (by omega)).mono ?_); rintro e w' ⟨rfl, rfl⟩))
  obtain ⟨X, hX⟩ : ∃ X, w1.alloc (.cells #[.int .i64 2, .int .i64 A, .int .i64 N, .int .u16 0, .int .u16 0, .int .u16 0, .slice none 0 0, .slice none 0 0, .int .i64 0, .int .i64 0, .int .i64 0, .int .i64 0] 30) = X := ⟨_, rfl⟩
  have hs1 : (w1.alloc (.cells #[.int .i64 2, .int .i64 A, .int .i64 N, .int .u16 0, .int .u16 0, .int .u16 0, .slice none 0 0, .slice none 0 0, .int .i64 0, .int .i64 0, .int .i64 0, .int .i64 0] 30)).heap.size = w1.heap.size + 1 := by simp
  have h1a : WholeV (w1.alloc (.cells #[.int .i64 2, .int .i64 A, .int .i64 N, .int .u16 0, .int .u16 0, .int .u16 0, .slice none 0 0, .slice none 0 0, .int .i64 0, .int .i64 0, .int .i64 0, .int .i64 0] 30)) w1.heap.size 30 [.int .i64 2, .int .i64 A, .int .i64 N, .int .u16 0, .int .u16 0, .int .u16 0, .slice none 0 0, .slice none 0 0, .int .i64 0, .int .i64 0, .int .i64 0, .int .i64 0] := heap_alloc_new w1 _
  have h1 : WholeV X w1.heap.size 30 [.int .i64 2, .int .i64 A, .int .i64 N, .int .u16 0, .int .u16 0, .int .u16 0, .slice none 0 0, .slice none 0 0, .int .i64 0, .int .i64 0, .int .i64 0, .int .i64 0] := by rw [← hX]; exact h1a
  have hbx : Below w.heap.size w X := by rw [← hX]; exact HB1.out.alloc HB1.out.size _
  rw [hX]
  have H1 := Lib.hid h1
  have HBX := Lib.hid hbx
  have hlt1 : w1.heap.size < X.heap.size := h1.lt
  obtain ⟨hy0, hy1, hy2, hy3, hy4, hy5, hy6, hy7, hy8, hy9, hy10, hy11⟩ := cells12 h1
  clear hX hs1 h1a h1 hbx
  refine (pbytes_no 2 A N 0 0 0 0 0 0 0 0 0 none none 0 0 _ HWd.out HRt.out).mono ?_
  rintro e w3 ⟨rfl, hb3'⟩
  have hb3 : Below X.heap.size X w3 := hb3'
  have h3 := H1.out.below hb3 H1.out.lt
  have HB3 := Lib.hid (HBX.out.trans (hb3.mono HBX.out.size))
  obtain ⟨hq0, hq1, hq2, hq3, hq4, hq5, hq6, hq7, hq8, hq9, hq10, hq11⟩ := cells12 h3
  clear hb3 hb3' h3
  go_wp2_with fail
  refine (pright_no 2 A N 0 0 0 0 0 0 0 0 0 none none 0 0 _ HWd.out HRt.out).mono ?_
  rintro e w4 ⟨rfl, hb4⟩
  have HB4 := Lib.hid (HB3.out.trans (hb4.mono HB3.out.size))
  clear hb4
  go_wp2
  go_ret
  exact ⟨rfl, HB4.out⟩

set_option maxRecDepth 100000 in
set_option maxHeartbeats 2000000 in
theorem bounds_1_high (a t n u M O z o N A : Int) (w : World) (a0 : -9223372036854775808 ≤ a) (a1 : a ≤ 9223372036854775807) (t0 : -9223372036854775808 ≤ t) (t1 : t ≤ 9223372036854775807) (n0 : -9223372036854775808 ≤ n) (n1 : n ≤ 9223372036854775807) (u0 : -9223372036854775808 ≤ u) (u1 : u ≤ 9223372036854775807) (hq : a % 8 = 1) (ho : u % 5 = o) (hM : kMostR 2 = M) (hO : kMostW 2 = O) (hz : n % M = z) (hA : t % 65536 = A) (hN : #[Value.int .i64 0, .int .i64 1, .int .i64 M, .int .i64 (M + 1), .int .i64 (1 + z)][o.toNat]? = some (.int .i64 N)) (N0 : 0 ≤ N) (N1 : N ≤ M + 1) (hfine : M < N) :
    Calls Try.prog 6 #[.int .i64 a, .int .i64 t, .int .i64 n, .int .i64 u] w fun e w' => e = .returned (.bool true) ∧ Below w.heap.size w w' := by
  have m0 : 1 ≤ M := by rw [← hM]; decide
  have m1 : M ≤ 2000 := by rw [← hM]; decide
  have mo : 0 ≤ O := by rw [← hO]; decide
  have mo1 : O ≤ 2000 := by rw [← hO]; decide
  have z0 : 0 ≤ z := by rw [← hz]; exact Int.emod_nonneg _ (by omega)
  have z1 : z < M := by rw [← hz]; exact Int.emod_lt_of_pos _ (by omega)
  have o0 : 0 ≤ o := by omega
  have o1 : o < 5 := by omega
  have b0 : 0 ≤ A := by omega
  have b1 : A ≤ 65535 := by omega
  obtain ⟨k, hk⟩ : ∃ k : Nat, N = (k : Int) := ⟨N.toNat, by omega⟩
  have hrt : ¬ rightP 2 A N 0 0 0 0 0 0 0 0 0 := by
    intro h
    have h5 := h.2.2.2.2
    unfold fitsP at h5
    omega
  have hwd : Wide A N 0 0 0 0 0 0 0 := wide_of (by omega) (by omega) (by omega) (by omega) (by omega) (by omega) (by omega) (by omega) (by omega)
  have hix48 : ∀ W : World, (Instr.index 44 (.agg #[.int .i64 1, .int .i64 2, .int .i64 3, .int .i64 4, .int .i64 15, .int .i64 16, .int .i64 23, .int .i64 23]) (.int .i64 1)).run Try.prog W = .ok (.int .i64 2) W := fun W => run_index_ints _ 8 _ 1 _ W Try.underlying44 (by omega) (by omega) rfl
  have hix51 : ∀ W : World, (Instr.index 47 (.agg #[.int .i64 0, .int .i64 1, .int .i64 M, .int .i64 (M + 1), .int .i64 (1 + z)]) (.int .i64 o)).run Try.prog W = .ok (.int .i64 N) W := fun W => run_index_ints _ 5 _ o _ W Try.underlying47 o0 o1 hN
  have HQ := Lib.hid hq
  have HO := Lib.hid ho
  have HMR : Hid (kMostR 2 = M) := hM
  have HMW : Hid (kMostW 2 = O) := hO
  have HZ := Lib.hid hz
  have HA := Lib.hid hA
  have HK := Lib.hid hk
  have HRt := Lib.hid hrt
  have HWd := Lib.hid hwd
  clear hq ho hM hO hz hA hk hrt hwd hN
  have wz : IntKind.i64.wrap (1 + z) = 1 + z := IntWalk.i64_in _ (by omega)
  have wm : IntKind.i64.wrap (M + 1) = M + 1 := IntWalk.i64_in _ (by omega)
  have hmx : max O 0 = O := by omega
  have g0 : 1 ≤ N := by omega
  have hd : decide (N ≤ M) = false := by simp; omega
  go_enter Try.func6, Try.ntmps6
  go_wp2_with fail
  refine (awake_any _).mono ?_
  rintro e w1 ⟨rfl, hb1⟩
  have HB1 := Lib.hid hb1
  clear hb1
  go_wp2_with (first
    | (go_at_call 9; (with_reducible refine (within_lit a 8 1 _ HQ.out a0 a1 (by omega) (by omega)).mono ?_); rintro e w' ⟨rfl, rfl⟩)
    | (go_at_call 18; (with_reducible refine (most_lit 2 _ _ _ HMR.out HMW.out).mono ?_); rintro e w' ⟨rfl, rfl⟩)
    | (go_at_call 9; (with_reducible refine (within_lit n M z _ HZ.out n0 n1 (by omega) (by omega)).mono ?_); rintro e w' ⟨rfl, rfl⟩)
    | (go_at_call 9; (with_reducible refine (within_lit u 5 o _ HO.out u0 u1 (by omega) (by omega)).mono ?_); rintro e w' ⟨rfl, rfl⟩)
    | (go_at_call 9; (with_reducible refine (within_lit t 65536 A _ HA.out t0 t1 (by omega) (by omega)).mono ?_); rintro e w' ⟨rfl, rfl⟩))
  obtain ⟨X, hX⟩ : ∃ X, w1.alloc (.cells #[.int .i64 2, .int .i64 A, .int .i64 N, .int .u16 0, .int .u16 0, .int .u16 0, .slice none 0 0, .slice none 0 0, .int .i64 0, .int .i64 0, .int .i64 0, .int .i64 0] 30) = X := ⟨_, rfl⟩
  have hs1 : (w1.alloc (.cells #[.int .i64 2, .int .i64 A, .int .i64 N, .int .u16 0, .int .u16 0, .int .u16 0, .slice none 0 0, .slice none 0 0, .int .i64 0, .int .i64 0, .int .i64 0, .int .i64 0] 30)).heap.size = w1.heap.size + 1 := by simp
  have h1a : WholeV (w1.alloc (.cells #[.int .i64 2, .int .i64 A, .int .i64 N, .int .u16 0, .int .u16 0, .int .u16 0, .slice none 0 0, .slice none 0 0, .int .i64 0, .int .i64 0, .int .i64 0, .int .i64 0] 30)) w1.heap.size 30 [.int .i64 2, .int .i64 A, .int .i64 N, .int .u16 0, .int .u16 0, .int .u16 0, .slice none 0 0, .slice none 0 0, .int .i64 0, .int .i64 0, .int .i64 0, .int .i64 0] := heap_alloc_new w1 _
  have h1 : WholeV X w1.heap.size 30 [.int .i64 2, .int .i64 A, .int .i64 N, .int .u16 0, .int .u16 0, .int .u16 0, .slice none 0 0, .slice none 0 0, .int .i64 0, .int .i64 0, .int .i64 0, .int .i64 0] := by rw [← hX]; exact h1a
  have hbx : Below w.heap.size w X := by rw [← hX]; exact HB1.out.alloc HB1.out.size _
  rw [hX]
  have H1 := Lib.hid h1
  have HBX := Lib.hid hbx
  have hlt1 : w1.heap.size < X.heap.size := h1.lt
  obtain ⟨hy0, hy1, hy2, hy3, hy4, hy5, hy6, hy7, hy8, hy9, hy10, hy11⟩ := cells12 h1
  clear hX hs1 h1a h1 hbx
  refine (pbytes_no 2 A N 0 0 0 0 0 0 0 0 0 none none 0 0 _ HWd.out HRt.out).mono ?_
  rintro e w3 ⟨rfl, hb3'⟩
  have hb3 : Below X.heap.size X w3 := hb3'
  have h3 := H1.out.below hb3 H1.out.lt
  have HB3 := Lib.hid (HBX.out.trans (hb3.mono HBX.out.size))
  obtain ⟨hq0, hq1, hq2, hq3, hq4, hq5, hq6, hq7, hq8, hq9, hq10, hq11⟩ := cells12 h3
  clear hb3 hb3' h3
  go_wp2_with fail
  refine (pright_no 2 A N 0 0 0 0 0 0 0 0 0 none none 0 0 _ HWd.out HRt.out).mono ?_
  rintro e w4 ⟨rfl, hb4⟩
  have HB4 := Lib.hid (HB3.out.trans (hb4.mono HB3.out.size))
  clear hb4
  go_wp2
  go_ret
  exact ⟨rfl, HB4.out⟩

set_option maxRecDepth 100000 in
set_option maxHeartbeats 2000000 in
theorem bounds_2_yes (a t n u M O z o N A : Int) (w : World) (a0 : -9223372036854775808 ≤ a) (a1 : a ≤ 9223372036854775807) (t0 : -9223372036854775808 ≤ t) (t1 : t ≤ 9223372036854775807) (n0 : -9223372036854775808 ≤ n) (n1 : n ≤ 9223372036854775807) (u0 : -9223372036854775808 ≤ u) (u1 : u ≤ 9223372036854775807) (hq : a % 8 = 2) (ho : u % 5 = o) (hM : kMostR 3 = M) (hO : kMostW 3 = O) (hz : n % M = z) (hA : t % 65536 = A) (hN : #[Value.int .i64 0, .int .i64 1, .int .i64 M, .int .i64 (M + 1), .int .i64 (1 + z)][o.toNat]? = some (.int .i64 N)) (N0 : 0 ≤ N) (N1 : N ≤ M + 1) (hfine : 1 ≤ N ∧ N ≤ M) :
    Calls Try.prog 6 #[.int .i64 a, .int .i64 t, .int .i64 n, .int .i64 u] w fun e w' => e = .returned (.bool true) ∧ Below w.heap.size w w' := by
  have m0 : 1 ≤ M := by rw [← hM]; decide
  have m1 : M ≤ 2000 := by rw [← hM]; decide
  have mo : 0 ≤ O := by rw [← hO]; decide
  have mo1 : O ≤ 2000 := by rw [← hO]; decide
  have z0 : 0 ≤ z := by rw [← hz]; exact Int.emod_nonneg _ (by omega)
  have z1 : z < M := by rw [← hz]; exact Int.emod_lt_of_pos _ (by omega)
  have o0 : 0 ≤ o := by omega
  have o1 : o < 5 := by omega
  have b0 : 0 ≤ A := by omega
  have b1 : A ≤ 65535 := by omega
  obtain ⟨k, hk⟩ : ∃ k : Nat, N = (k : Int) := ⟨N.toNat, by omega⟩
  have hrt : rightP 3 A N 0 0 0 0 0 0 0 0 0 := by
    refine ⟨rfl, ?_, by omega, by omega, ?_⟩
    · unfold plainP; omega
    · have x1 : kMostR 23 = 125 := rfl
      have x2 : kMostW 23 = 121 := rfl
      unfold fitsP; omega
  have hwd : Wide A N 0 0 0 0 0 0 0 := wide_of (by omega) (by omega) (by omega) (by omega) (by omega) (by omega) (by omega) (by omega) (by omega)
  have hix48 : ∀ W : World, (Instr.index 44 (.agg #[.int .i64 1, .int .i64 2, .int .i64 3, .int .i64 4, .int .i64 15, .int .i64 16, .int .i64 23, .int .i64 23]) (.int .i64 2)).run Try.prog W = .ok (.int .i64 3) W := fun W => run_index_ints _ 8 _ 2 _ W Try.underlying44 (by omega) (by omega) rfl
  have hix51 : ∀ W : World, (Instr.index 47 (.agg #[.int .i64 0, .int .i64 1, .int .i64 M, .int .i64 (M + 1), .int .i64 (1 + z)]) (.int .i64 o)).run Try.prog W = .ok (.int .i64 N) W := fun W => run_index_ints _ 5 _ o _ W Try.underlying47 o0 o1 hN
  have HQ := Lib.hid hq
  have HO := Lib.hid ho
  have HMR : Hid (kMostR 3 = M) := hM
  have HMW : Hid (kMostW 3 = O) := hO
  have HZ := Lib.hid hz
  have HA := Lib.hid hA
  have HK := Lib.hid hk
  have HRt := Lib.hid hrt
  have HWd := Lib.hid hwd
  clear hq ho hM hO hz hA hk hrt hwd hN
  have wz : IntKind.i64.wrap (1 + z) = 1 + z := IntWalk.i64_in _ (by omega)
  have wm : IntKind.i64.wrap (M + 1) = M + 1 := IntWalk.i64_in _ (by omega)
  have hmx : max O 0 = O := by omega
  obtain ⟨g0, g1⟩ := hfine
  go_enter Try.func6, Try.ntmps6
  go_wp2_with fail
  refine (awake_any _).mono ?_
  rintro e w1 ⟨rfl, hb1⟩
  have HB1 := Lib.hid hb1
  clear hb1
  go_wp2_with (first
    | (go_at_call 9; (with_reducible refine (within_lit a 8 2 _ HQ.out a0 a1 (by omega) (by omega)).mono ?_); rintro e w' ⟨rfl, rfl⟩)
    | (go_at_call 18; (with_reducible refine (most_lit 3 _ _ _ HMR.out HMW.out).mono ?_); rintro e w' ⟨rfl, rfl⟩)
    | (go_at_call 9; (with_reducible refine (within_lit n M z _ HZ.out n0 n1 (by omega) (by omega)).mono ?_); rintro e w' ⟨rfl, rfl⟩)
    | (go_at_call 9; (with_reducible refine (within_lit u 5 o _ HO.out u0 u1 (by omega) (by omega)).mono ?_); rintro e w' ⟨rfl, rfl⟩)
    | (go_at_call 9; (with_reducible refine (within_lit t 65536 A _ HA.out t0 t1 (by omega) (by omega)).mono ?_); rintro e w' ⟨rfl, rfl⟩))
  obtain ⟨X, hX⟩ : ∃ X, w1.alloc (.cells #[.int .i64 3, .int .i64 A, .int .i64 N, .int .u16 0, .int .u16 0, .int .u16 0, .slice none 0 0, .slice none 0 0, .int .i64 0, .int .i64 0, .int .i64 0, .int .i64 0] 30) = X := ⟨_, rfl⟩
  have hs1 : (w1.alloc (.cells #[.int .i64 3, .int .i64 A, .int .i64 N, .int .u16 0, .int .u16 0, .int .u16 0, .slice none 0 0, .slice none 0 0, .int .i64 0, .int .i64 0, .int .i64 0, .int .i64 0] 30)).heap.size = w1.heap.size + 1 := by simp
  have h1a : WholeV (w1.alloc (.cells #[.int .i64 3, .int .i64 A, .int .i64 N, .int .u16 0, .int .u16 0, .int .u16 0, .slice none 0 0, .slice none 0 0, .int .i64 0, .int .i64 0, .int .i64 0, .int .i64 0] 30)) w1.heap.size 30 [.int .i64 3, .int .i64 A, .int .i64 N, .int .u16 0, .int .u16 0, .int .u16 0, .slice none 0 0, .slice none 0 0, .int .i64 0, .int .i64 0, .int .i64 0, .int .i64 0] := heap_alloc_new w1 _
  have h1 : WholeV X w1.heap.size 30 [.int .i64 3, .int .i64 A, .int .i64 N, .int .u16 0, .int .u16 0, .int .u16 0, .slice none 0 0, .slice none 0 0, .int .i64 0, .int .i64 0, .int .i64 0, .int .i64 0] := by rw [← hX]; exact h1a
  have hbx : Below w.heap.size w X := by rw [← hX]; exact HB1.out.alloc HB1.out.size _
  rw [hX]
  have H1 := Lib.hid h1
  have HBX := Lib.hid hbx
  have hlt1 : w1.heap.size < X.heap.size := h1.lt
  obtain ⟨hy0, hy1, hy2, hy3, hy4, hy5, hy6, hy7, hy8, hy9, hy10, hy11⟩ := cells12 h1
  clear hX hs1 h1a h1 hbx
  refine (pbytes_yes 3 A N 0 0 0 [] [] 0 0 0 0 none none 0 0 0 0 _ HWd.out HRt.out BRow.nil (Row.nil _ _ _ _) words_nil).mono ?_
  rintro e w3 ⟨C, cap, rfl, ho, hb3'⟩
  have hb3 : Below X.heap.size X w3 := hb3'
  have hrl : rightP 3 A N 0 0 0 ([] : List Bool).length ([] : List Int).length 0 0 0 0 := HRt.out
  have HRl := Lib.hid hrl
  clear hrl
  rw [show (enc 3 A N 0 0 0 [] [] 0 0 0 0).length = 5 by rw [enc_read _ _ _ _ _ _ _ _ _ _ _ _ (by omega)]; rfl]
  have h3 := H1.out.below hb3 H1.out.lt
  have HB3 := Lib.hid (HBX.out.trans (hb3.mono HBX.out.size))
  obtain ⟨hq0, hq1, hq2, hq3, hq4, hq5, hq6, hq7, hq8, hq9, hq10, hq11⟩ := cells12 h3
  clear hb3 hb3' h3
  go_wp2_with fail
  refine (pright_yes 3 A N 0 0 0 0 0 0 0 0 0 none none 0 0 _ HWd.out HRt.out).mono ?_
  rintro e w4 ⟨rfl, hb4⟩
  have HB4 := Lib.hid (HB3.out.trans (hb4.mono HB3.out.size))
  clear hb4
  go_wp2
  go_ret
  exact ⟨rfl, HB4.out⟩

set_option maxRecDepth 100000 in
set_option maxHeartbeats 2000000 in
theorem bounds_2_low (a t n u M O z o N A : Int) (w : World) (a0 : -9223372036854775808 ≤ a) (a1 : a ≤ 9223372036854775807) (t0 : -9223372036854775808 ≤ t) (t1 : t ≤ 9223372036854775807) (n0 : -9223372036854775808 ≤ n) (n1 : n ≤ 9223372036854775807) (u0 : -9223372036854775808 ≤ u) (u1 : u ≤ 9223372036854775807) (hq : a % 8 = 2) (ho : u % 5 = o) (hM : kMostR 3 = M) (hO : kMostW 3 = O) (hz : n % M = z) (hA : t % 65536 = A) (hN : #[Value.int .i64 0, .int .i64 1, .int .i64 M, .int .i64 (M + 1), .int .i64 (1 + z)][o.toNat]? = some (.int .i64 N)) (N0 : 0 ≤ N) (N1 : N ≤ M + 1) (hfine : N < 1) :
    Calls Try.prog 6 #[.int .i64 a, .int .i64 t, .int .i64 n, .int .i64 u] w fun e w' => e = .returned (.bool true) ∧ Below w.heap.size w w' := by
  have m0 : 1 ≤ M := by rw [← hM]; decide
  have m1 : M ≤ 2000 := by rw [← hM]; decide
  have mo : 0 ≤ O := by rw [← hO]; decide
  have mo1 : O ≤ 2000 := by rw [← hO]; decide
  have z0 : 0 ≤ z := by rw [← hz]; exact Int.emod_nonneg _ (by omega)
  have z1 : z < M := by rw [← hz]; exact Int.emod_lt_of_pos _ (by omega)
  have o0 : 0 ≤ o := by omega
  have o1 : o < 5 := by omega
  have b0 : 0 ≤ A := by omega
  have b1 : A ≤ 65535 := by omega
  obtain ⟨k, hk⟩ : ∃ k : Nat, N = (k : Int) := ⟨N.toNat, by omega⟩
  have hrt : ¬ rightP 3 A N 0 0 0 0 0 0 0 0 0 := by
    intro h
    have h5 := h.2.2.2.2
    unfold fitsP at h5
    omega
  have hwd : Wide A N 0 0 0 0 0 0 0 := wide_of (by omega) (by omega) (by omega) (by omega) (by omega) (by omega) (by omega) (by omega) (by omega)
  have hix48 : ∀ W : World, (Instr.index 44 (.agg #[.int .i64 1, .int .i64 2, .int .i64 3, .int .i64 4, .int .i64 15, .int .i64 16, .int .i64 23, .int .i64 23]) (.int .i64 2)).run Try.prog W = .ok (.int .i64 3) W := fun W => run_index_ints _ 8 _ 2 _ W Try.underlying44 (by omega) (by omega) rfl
  have hix51 : ∀ W : World, (Instr.index 47 (.agg #[.int .i64 0, .int .i64 1, .int .i64 M, .int .i64 (M + 1), .int .i64 (1 + z)]) (.int .i64 o)).run Try.prog W = .ok (.int .i64 N) W := fun W => run_index_ints _ 5 _ o _ W Try.underlying47 o0 o1 hN
  have HQ := Lib.hid hq
  have HO := Lib.hid ho
  have HMR : Hid (kMostR 3 = M) := hM
  have HMW : Hid (kMostW 3 = O) := hO
  have HZ := Lib.hid hz
  have HA := Lib.hid hA
  have HK := Lib.hid hk
  have HRt := Lib.hid hrt
  have HWd := Lib.hid hwd
  clear hq ho hM hO hz hA hk hrt hwd hN
  have wz : IntKind.i64.wrap (1 + z) = 1 + z := IntWalk.i64_in _ (by omega)
  have wm : IntKind.i64.wrap (M + 1) = M + 1 := IntWalk.i64_in _ (by omega)
  have hmx : max O 0 = O := by omega
  have hd : decide (1 ≤ N) = false := by simp; omega
  go_enter Try.func6, Try.ntmps6
  go_wp2_with fail
  refine (awake_any _).mono ?_
  rintro e w1 ⟨rfl, hb1⟩
  have HB1 := Lib.hid hb1
  clear hb1
  go_wp2_with (first
    | (go_at_call 9; (with_reducible refine (within_lit a 8 2 _ HQ.out a0 a1 (by omega) (by omega)).mono ?_); rintro e w' ⟨rfl, rfl⟩)
    | (go_at_call 18; (with_reducible refine (most_lit 3 _ _ _ HMR.out HMW.out).mono ?_); rintro e w' ⟨rfl, rfl⟩)
    | (go_at_call 9; (with_reducible refine (within_lit n M z _ HZ.out n0 n1 (by omega) (by omega)).mono ?_); rintro e w' ⟨rfl, rfl⟩)
    | (go_at_call 9; (with_reducible refine (within_lit u 5 o _ HO.out u0 u1 (by omega) (by omega)).mono ?_); rintro e w' ⟨rfl, rfl⟩)
    | (go_at_call 9; (with_reducible refine (within_lit t 65536 A _ HA.out t0 t1 (by omega) (by omega)).mono ?_); rintro e w' ⟨rfl, rfl⟩))
  obtain ⟨X, hX⟩ : ∃ X, w1.alloc (.cells #[.int .i64 3, .int .i64 A, .int .i64 N, .int .u16 0, .int .u16 0, .int .u16 0, .slice none 0 0, .slice none 0 0, .int .i64 0, .int .i64 0, .int .i64 0, .int .i64 0] 30) = X := ⟨_, rfl⟩
  have hs1 : (w1.alloc (.cells #[.int .i64 3, .int .i64 A, .int .i64 N, .int .u16 0, .int .u16 0, .int .u16 0, .slice none 0 0, .slice none 0 0, .int .i64 0, .int .i64 0, .int .i64 0, .int .i64 0] 30)).heap.size = w1.heap.size + 1 := by simp
  have h1a : WholeV (w1.alloc (.cells #[.int .i64 3, .int .i64 A, .int .i64 N, .int .u16 0, .int .u16 0, .int .u16 0, .slice none 0 0, .slice none 0 0, .int .i64 0, .int .i64 0, .int .i64 0, .int .i64 0] 30)) w1.heap.size 30 [.int .i64 3, .int .i64 A, .int .i64 N, .int .u16 0, .int .u16 0, .int .u16 0, .slice none 0 0, .slice none 0 0, .int .i64 0, .int .i64 0, .int .i64 0, .int .i64 0] := heap_alloc_new w1 _
  have h1 : WholeV X w1.heap.size 30 [.int .i64 3, .int .i64 A, .int .i64 N, .int .u16 0, .int .u16 0, .int .u16 0, .slice none 0 0, .slice none 0 0, .int .i64 0, .int .i64 0, .int .i64 0, .int .i64 0] := by rw [← hX]; exact h1a
  have hbx : Below w.heap.size w X := by rw [← hX]; exact HB1.out.alloc HB1.out.size _
  rw [hX]
  have H1 := Lib.hid h1
  have HBX := Lib.hid hbx
  have hlt1 : w1.heap.size < X.heap.size := h1.lt
  obtain ⟨hy0, hy1, hy2, hy3, hy4, hy5, hy6, hy7, hy8, hy9, hy10, hy11⟩ := cells12 h1
  clear hX hs1 h1a h1 hbx
  refine (pbytes_no 3 A N 0 0 0 0 0 0 0 0 0 none none 0 0 _ HWd.out HRt.out).mono ?_
  rintro e w3 ⟨rfl, hb3'⟩
  have hb3 : Below X.heap.size X w3 := hb3'
  have h3 := H1.out.below hb3 H1.out.lt
  have HB3 := Lib.hid (HBX.out.trans (hb3.mono HBX.out.size))
  obtain ⟨hq0, hq1, hq2, hq3, hq4, hq5, hq6, hq7, hq8, hq9, hq10, hq11⟩ := cells12 h3
  clear hb3 hb3' h3
  go_wp2_with fail
  refine (pright_no 3 A N 0 0 0 0 0 0 0 0 0 none none 0 0 _ HWd.out HRt.out).mono ?_
  rintro e w4 ⟨rfl, hb4⟩
  have HB4 := Lib.hid (HB3.out.trans (hb4.mono HB3.out.size))
  clear hb4
  go_wp2
  go_ret
  exact ⟨rfl, HB4.out⟩

set_option maxRecDepth 100000 in
set_option maxHeartbeats 2000000 in
theorem bounds_2_high (a t n u M O z o N A : Int) (w : World) (a0 : -9223372036854775808 ≤ a) (a1 : a ≤ 9223372036854775807) (t0 : -9223372036854775808 ≤ t) (t1 : t ≤ 9223372036854775807) (n0 : -9223372036854775808 ≤ n) (n1 : n ≤ 9223372036854775807) (u0 : -9223372036854775808 ≤ u) (u1 : u ≤ 9223372036854775807) (hq : a % 8 = 2) (ho : u % 5 = o) (hM : kMostR 3 = M) (hO : kMostW 3 = O) (hz : n % M = z) (hA : t % 65536 = A) (hN : #[Value.int .i64 0, .int .i64 1, .int .i64 M, .int .i64 (M + 1), .int .i64 (1 + z)][o.toNat]? = some (.int .i64 N)) (N0 : 0 ≤ N) (N1 : N ≤ M + 1) (hfine : M < N) :
    Calls Try.prog 6 #[.int .i64 a, .int .i64 t, .int .i64 n, .int .i64 u] w fun e w' => e = .returned (.bool true) ∧ Below w.heap.size w w' := by
  have m0 : 1 ≤ M := by rw [← hM]; decide
  have m1 : M ≤ 2000 := by rw [← hM]; decide
  have mo : 0 ≤ O := by rw [← hO]; decide
  have mo1 : O ≤ 2000 := by rw [← hO]; decide
  have z0 : 0 ≤ z := by rw [← hz]; exact Int.emod_nonneg _ (by omega)
  have z1 : z < M := by rw [← hz]; exact Int.emod_lt_of_pos _ (by omega)
  have o0 : 0 ≤ o := by omega
  have o1 : o < 5 := by omega
  have b0 : 0 ≤ A := by omega
  have b1 : A ≤ 65535 := by omega
  obtain ⟨k, hk⟩ : ∃ k : Nat, N = (k : Int) := ⟨N.toNat, by omega⟩
  have hrt : ¬ rightP 3 A N 0 0 0 0 0 0 0 0 0 := by
    intro h
    have h5 := h.2.2.2.2
    unfold fitsP at h5
    omega
  have hwd : Wide A N 0 0 0 0 0 0 0 := wide_of (by omega) (by omega) (by omega) (by omega) (by omega) (by omega) (by omega) (by omega) (by omega)
  have hix48 : ∀ W : World, (Instr.index 44 (.agg #[.int .i64 1, .int .i64 2, .int .i64 3, .int .i64 4, .int .i64 15, .int .i64 16, .int .i64 23, .int .i64 23]) (.int .i64 2)).run Try.prog W = .ok (.int .i64 3) W := fun W => run_index_ints _ 8 _ 2 _ W Try.underlying44 (by omega) (by omega) rfl
  have hix51 : ∀ W : World, (Instr.index 47 (.agg #[.int .i64 0, .int .i64 1, .int .i64 M, .int .i64 (M + 1), .int .i64 (1 + z)]) (.int .i64 o)).run Try.prog W = .ok (.int .i64 N) W := fun W => run_index_ints _ 5 _ o _ W Try.underlying47 o0 o1 hN
  have HQ := Lib.hid hq
  have HO := Lib.hid ho
  have HMR : Hid (kMostR 3 = M) := hM
  have HMW : Hid (kMostW 3 = O) := hO
  have HZ := Lib.hid hz
  have HA := Lib.hid hA
  have HK := Lib.hid hk
  have HRt := Lib.hid hrt
  have HWd := Lib.hid hwd
  clear hq ho hM hO hz hA hk hrt hwd hN
  have wz : IntKind.i64.wrap (1 + z) = 1 + z := IntWalk.i64_in _ (by omega)
  have wm : IntKind.i64.wrap (M + 1) = M + 1 := IntWalk.i64_in _ (by omega)
  have hmx : max O 0 = O := by omega
  have g0 : 1 ≤ N := by omega
  have hd : decide (N ≤ M) = false := by simp; omega
  go_enter Try.func6, Try.ntmps6
  go_wp2_with fail
  refine (awake_any _).mono ?_
  rintro e w1 ⟨rfl, hb1⟩
  have HB1 := Lib.hid hb1
  clear hb1
  go_wp2_with (first
    | (go_at_call 9; (with_reducible refine (within_lit a 8 2 _ HQ.out a0 a1 (by omega) (by omega)).mono ?_); rintro e w' ⟨rfl, rfl⟩)
    | (go_at_call 18; (with_reducible refine (most_lit 3 _ _ _ HMR.out HMW.out).mono ?_); rintro e w' ⟨rfl, rfl⟩)
    | (go_at_call 9; (with_reducible refine (within_lit n M z _ HZ.out n0 n1 (by omega) (by omega)).mono ?_); rintro e w' ⟨rfl, rfl⟩)
    | (go_at_call 9; (with_reducible refine (within_lit u 5 o _ HO.out u0 u1 (by omega) (by omega)).mono ?_); rintro e w' ⟨rfl, rfl⟩)
    | (go_at_call 9; (with_reducible refine (within_lit t 65536 A _ HA.out t0 t1 (by omega) (by omega)).mono ?_); rintro e w' ⟨rfl, rfl⟩))
  obtain ⟨X, hX⟩ : ∃ X, w1.alloc (.cells #[.int .i64 3, .int .i64 A, .int .i64 N, .int .u16 0, .int .u16 0, .int .u16 0, .slice none 0 0, .slice none 0 0, .int .i64 0, .int .i64 0, .int .i64 0, .int .i64 0] 30) = X := ⟨_, rfl⟩
  have hs1 : (w1.alloc (.cells #[.int .i64 3, .int .i64 A, .int .i64 N, .int .u16 0, .int .u16 0, .int .u16 0, .slice none 0 0, .slice none 0 0, .int .i64 0, .int .i64 0, .int .i64 0, .int .i64 0] 30)).heap.size = w1.heap.size + 1 := by simp
  have h1a : WholeV (w1.alloc (.cells #[.int .i64 3, .int .i64 A, .int .i64 N, .int .u16 0, .int .u16 0, .int .u16 0, .slice none 0 0, .slice none 0 0, .int .i64 0, .int .i64 0, .int .i64 0, .int .i64 0] 30)) w1.heap.size 30 [.int .i64 3, .int .i64 A, .int .i64 N, .int .u16 0, .int .u16 0, .int .u16 0, .slice none 0 0, .slice none 0 0, .int .i64 0, .int .i64 0, .int .i64 0, .int .i64 0] := heap_alloc_new w1 _
  have h1 : WholeV X w1.heap.size 30 [.int .i64 3, .int .i64 A, .int .i64 N, .int .u16 0, .int .u16 0, .int .u16 0, .slice none 0 0, .slice none 0 0, .int .i64 0, .int .i64 0, .int .i64 0, .int .i64 0] := by rw [← hX]; exact h1a
  have hbx : Below w.heap.size w X := by rw [← hX]; exact HB1.out.alloc HB1.out.size _
  rw [hX]
  have H1 := Lib.hid h1
  have HBX := Lib.hid hbx
  have hlt1 : w1.heap.size < X.heap.size := h1.lt
  obtain ⟨hy0, hy1, hy2, hy3, hy4, hy5, hy6, hy7, hy8, hy9, hy10, hy11⟩ := cells12 h1
  clear hX hs1 h1a h1 hbx
  refine (pbytes_no 3 A N 0 0 0 0 0 0 0 0 0 none none 0 0 _ HWd.out HRt.out).mono ?_
  rintro e w3 ⟨rfl, hb3'⟩
  have hb3 : Below X.heap.size X w3 := hb3'
  have h3 := H1.out.below hb3 H1.out.lt
  have HB3 := Lib.hid (HBX.out.trans (hb3.mono HBX.out.size))
  obtain ⟨hq0, hq1, hq2, hq3, hq4, hq5, hq6, hq7, hq8, hq9, hq10, hq11⟩ := cells12 h3
  clear hb3 hb3' h3
  go_wp2_with fail
  refine (pright_no 3 A N 0 0 0 0 0 0 0 0 0 none none 0 0 _ HWd.out HRt.out).mono ?_
  rintro e w4 ⟨rfl, hb4⟩
  have HB4 := Lib.hid (HB3.out.trans (hb4.mono HB3.out.size))
  clear hb4
  go_wp2
  go_ret
  exact ⟨rfl, HB4.out⟩

set_option maxRecDepth 100000 in
set_option maxHeartbeats 2000000 in
theorem bounds_3_yes (a t n u M O z o N A : Int) (w : World) (a0 : -9223372036854775808 ≤ a) (a1 : a ≤ 9223372036854775807) (t0 : -9223372036854775808 ≤ t) (t1 : t ≤ 9223372036854775807) (n0 : -9223372036854775808 ≤ n) (n1 : n ≤ 9223372036854775807) (u0 : -9223372036854775808 ≤ u) (u1 : u ≤ 9223372036854775807) (hq : a % 8 = 3) (ho : u % 5 = o) (hM : kMostR 4 = M) (hO : kMostW 4 = O) (hz : n % M = z) (hA : t % 65536 = A) (hN : #[Value.int .i64 0, .int .i64 1, .int .i64 M, .int .i64 (M + 1), .int .i64 (1 + z)][o.toNat]? = some (.int .i64 N)) (N0 : 0 ≤ N) (N1 : N ≤ M + 1) (hfine : 1 ≤ N ∧ N ≤ M) :
    Calls Try.prog 6 #[.int .i64 a, .int .i64 t, .int .i64 n, .int .i64 u] w fun e w' => e = .returned (.bool true) ∧ Below w.heap.size w w' := by
  have m0 : 1 ≤ M := by rw [← hM]; decide
  have m1 : M ≤ 2000 := by rw [← hM]; decide
  have mo : 0 ≤ O := by rw [← hO]; decide
  have mo1 : O ≤ 2000 := by rw [← hO]; decide
  have z0 : 0 ≤ z := by rw [← hz]; exact Int.emod_nonneg _ (by omega)
  have z1 : z < M := by rw [← hz]; exact Int.emod_lt_of_pos _ (by omega)
  have o0 : 0 ≤ o := by omega
  have o1 : o < 5 := by omega
  have b0 : 0 ≤ A := by omega
  have b1 : A ≤ 65535 := by omega
  obtain ⟨k, hk⟩ : ∃ k : Nat, N = (k : Int) := ⟨N.toNat, by omega⟩
  have hrt : rightP 4 A N 0 0 0 0 0 0 0 0 0 := by
    refine ⟨rfl, ?_, by omega, by omega, ?_⟩
    · unfold plainP; omega
    · have x1 : kMostR 23 = 125 := rfl
      have x2 : kMostW 23 = 121 := rfl
      unfold fitsP; omega
  have hwd : Wide A N 0 0 0 0 0 0 0 := wide_of (by omega) (by omega) (by omega) (by omega) (by omega) (by omega) (by omega) (by omega) (by omega)
  have hix48 : ∀ W : World, (Instr.index 44 (.agg #[.int .i64 1, .int .i64 2, .int .i64 3, .int .i64 4, .int .i64 15, .int .i64 16, .int .i64 23, .int .i64 23]) (.int .i64 3)).run Try.prog W = .ok (.int .i64 4) W := fun W => run_index_ints _ 8 _ 3 _ W Try.underlying44 (by omega) (by omega) rfl
  have hix51 : ∀ W : World, (Instr.index 47 (.agg #[.int .i64 0, .int .i64 1, .int .i64 M, .int .i64 (M + 1), .int .i64 (1 + z)]) (.int .i64 o)).run Try.prog W = .ok (.int .i64 N) W := fun W => run_index_ints _ 5 _ o _ W Try.underlying47 o0 o1 hN
  have HQ := Lib.hid hq
  have HO := Lib.hid ho
  have HMR : Hid (kMostR 4 = M) := hM
  have HMW : Hid (kMostW 4 = O) := hO
  have HZ := Lib.hid hz
  have HA := Lib.hid hA
  have HK := Lib.hid hk
  have HRt := Lib.hid hrt
  have HWd := Lib.hid hwd
  clear hq ho hM hO hz hA hk hrt hwd hN
  have wz : IntKind.i64.wrap (1 + z) = 1 + z := IntWalk.i64_in _ (by omega)
  have wm : IntKind.i64.wrap (M + 1) = M + 1 := IntWalk.i64_in _ (by omega)
  have hmx : max O 0 = O := by omega
  obtain ⟨g0, g1⟩ := hfine
  go_enter Try.func6, Try.ntmps6
  go_wp2_with fail
  refine (awake_any _).mono ?_
  rintro e w1 ⟨rfl, hb1⟩
  have HB1 := Lib.hid hb1
  clear hb1
  go_wp2_with (first
    | (go_at_call 9; (with_reducible refine (within_lit a 8 3 _ HQ.out a0 a1 (by omega) (by omega)).mono ?_); rintro e w' ⟨rfl, rfl⟩)
    | (go_at_call 18; (with_reducible refine (most_lit 4 _ _ _ HMR.out HMW.out).mono ?_); rintro e w' ⟨rfl, rfl⟩)
    | (go_at_call 9; (with_reducible refine (within_lit n M z _ HZ.out n0 n1 (by omega) (by omega)).mono ?_); rintro e w' ⟨rfl, rfl⟩)
    | (go_at_call 9; (with_reducible refine (within_lit u 5 o _ HO.out u0 u1 (by omega) (by omega)).mono ?_); rintro e w' ⟨rfl, rfl⟩)
    | (go_at_call 9; (with_reducible refine (within_lit t 65536 A _ HA.out t0 t1 (by omega) (by omega)).mono ?_); rintro e w' ⟨rfl, rfl⟩))
  obtain ⟨X, hX⟩ : ∃ X, w1.alloc (.cells #[.int .i64 4, .int .i64 A, .int .i64 N, .int .u16 0, .int .u16 0, .int .u16 0, .slice none 0 0, .slice none 0 0, .int .i64 0, .int .i64 0, .int .i64 0, .int .i64 0] 30) = X := ⟨_, rfl⟩
  have hs1 : (w1.alloc (.cells #[.int .i64 4, .int .i64 A, .int .i64 N, .int .u16 0, .int .u16 0, .int .u16 0, .slice none 0 0, .slice none 0 0, .int .i64 0, .int .i64 0, .int .i64 0, .int .i64 0] 30)).heap.size = w1.heap.size + 1 := by simp
  have h1a : WholeV (w1.alloc (.cells #[.int .i64 4, .int .i64 A, .int .i64 N, .int .u16 0, .int .u16 0, .int .u16 0, .slice none 0 0, .slice none 0 0, .int .i64 0, .int .i64 0, .int .i64 0, .int .i64 0] 30)) w1.heap.size 30 [.int .i64 4, .int .i64 A, .int .i64 N, .int .u16 0, .int .u16 0, .int .u16 0, .slice none 0 0, .slice none 0 0, .int .i64 0, .int .i64 0, .int .i64 0, .int .i64 0] := heap_alloc_new w1 _
  have h1 : WholeV X w1.heap.size 30 [.int .i64 4, .int .i64 A, .int .i64 N, .int .u16 0, .int .u16 0, .int .u16 0, .slice none 0 0, .slice none 0 0, .int .i64 0, .int .i64 0, .int .i64 0, .int .i64 0] := by rw [← hX]; exact h1a
  have hbx : Below w.heap.size w X := by rw [← hX]; exact HB1.out.alloc HB1.out.size _
  rw [hX]
  have H1 := Lib.hid h1
  have HBX := Lib.hid hbx
  have hlt1 : w1.heap.size < X.heap.size := h1.lt
  obtain ⟨hy0, hy1, hy2, hy3, hy4, hy5, hy6, hy7, hy8, hy9, hy10, hy11⟩ := cells12 h1
  clear hX hs1 h1a h1 hbx
  refine (pbytes_yes 4 A N 0 0 0 [] [] 0 0 0 0 none none 0 0 0 0 _ HWd.out HRt.out BRow.nil (Row.nil _ _ _ _) words_nil).mono ?_
  rintro e w3 ⟨C, cap, rfl, ho, hb3'⟩
  have hb3 : Below X.heap.size X w3 := hb3'
  have hrl : rightP 4 A N 0 0 0 ([] : List Bool).length ([] : List Int).length 0 0 0 0 := HRt.out
  have HRl := Lib.hid hrl
  clear hrl
  rw [show (enc 4 A N 0 0 0 [] [] 0 0 0 0).length = 5 by rw [enc_read _ _ _ _ _ _ _ _ _ _ _ _ (by omega)]; rfl]
  have h3 := H1.out.below hb3 H1.out.lt
  have HB3 := Lib.hid (HBX.out.trans (hb3.mono HBX.out.size))
  obtain ⟨hq0, hq1, hq2, hq3, hq4, hq5, hq6, hq7, hq8, hq9, hq10, hq11⟩ := cells12 h3
  clear hb3 hb3' h3
  go_wp2_with fail
  refine (pright_yes 4 A N 0 0 0 0 0 0 0 0 0 none none 0 0 _ HWd.out HRt.out).mono ?_
  rintro e w4 ⟨rfl, hb4⟩
  have HB4 := Lib.hid (HB3.out.trans (hb4.mono HB3.out.size))
  clear hb4
  go_wp2
  go_ret
  exact ⟨rfl, HB4.out⟩

set_option maxRecDepth 100000 in
set_option maxHeartbeats 2000000 in
theorem bounds_3_low (a t n u M O z o N A : Int) (w : World) (a0 : -9223372036854775808 ≤ a) (a1 : a ≤ 9223372036854775807) (t0 : -9223372036854775808 ≤ t) (t1 : t ≤ 9223372036854775807) (n0 : -9223372036854775808 ≤ n) (n1 : n ≤ 9223372036854775807) (u0 : -9223372036854775808 ≤ u) (u1 : u ≤ 9223372036854775807) (hq : a % 8 = 3) (ho : u % 5 = o) (hM : kMostR 4 = M) (hO : kMostW 4 = O) (hz : n % M = z) (hA : t % 65536 = A) (hN : #[Value.int .i64 0, .int .i64 1, .int .i64 M, .int .i64 (M + 1), .int .i64 (1 + z)][o.toNat]? = some (.int .i64 N)) (N0 : 0 ≤ N) (N1 : N ≤ M + 1) (hfine : N < 1) :
    Calls Try.prog 6 #[.int .i64 a, .int .i64 t, .int .i64 n, .int .i64 u] w fun e w' => e = .returned (.bool true) ∧ Below w.heap.size w w' := by
  have m0 : 1 ≤ M := by rw [← hM]; decide
  have m1 : M ≤ 2000 := by rw [← hM]; decide
  have mo : 0 ≤ O := by rw [← hO]; decide
  have mo1 : O ≤ 2000 := by rw [← hO]; decide
  have z0 : 0 ≤ z := by rw [← hz]; exact Int.emod_nonneg _ (by omega)
  have z1 : z < M := by rw [← hz]; exact Int.emod_lt_of_pos _ (by omega)
  have o0 : 0 ≤ o := by omega
  have o1 : o < 5 := by omega
  have b0 : 0 ≤ A := by omega
  have b1 : A ≤ 65535 := by omega
  obtain ⟨k, hk⟩ : ∃ k : Nat, N = (k : Int) := ⟨N.toNat, by omega⟩
  have hrt : ¬ rightP 4 A N 0 0 0 0 0 0 0 0 0 := by
    intro h
    have h5 := h.2.2.2.2
    unfold fitsP at h5
    omega
  have hwd : Wide A N 0 0 0 0 0 0 0 := wide_of (by omega) (by omega) (by omega) (by omega) (by omega) (by omega) (by omega) (by omega) (by omega)
  have hix48 : ∀ W : World, (Instr.index 44 (.agg #[.int .i64 1, .int .i64 2, .int .i64 3, .int .i64 4, .int .i64 15, .int .i64 16, .int .i64 23, .int .i64 23]) (.int .i64 3)).run Try.prog W = .ok (.int .i64 4) W := fun W => run_index_ints _ 8 _ 3 _ W Try.underlying44 (by omega) (by omega) rfl
  have hix51 : ∀ W : World, (Instr.index 47 (.agg #[.int .i64 0, .int .i64 1, .int .i64 M, .int .i64 (M + 1), .int .i64 (1 + z)]) (.int .i64 o)).run Try.prog W = .ok (.int .i64 N) W := fun W => run_index_ints _ 5 _ o _ W Try.underlying47 o0 o1 hN
  have HQ := Lib.hid hq
  have HO := Lib.hid ho
  have HMR : Hid (kMostR 4 = M) := hM
  have HMW : Hid (kMostW 4 = O) := hO
  have HZ := Lib.hid hz
  have HA := Lib.hid hA
  have HK := Lib.hid hk
  have HRt := Lib.hid hrt
  have HWd := Lib.hid hwd
  clear hq ho hM hO hz hA hk hrt hwd hN
  have wz : IntKind.i64.wrap (1 + z) = 1 + z := IntWalk.i64_in _ (by omega)
  have wm : IntKind.i64.wrap (M + 1) = M + 1 := IntWalk.i64_in _ (by omega)
  have hmx : max O 0 = O := by omega
  have hd : decide (1 ≤ N) = false := by simp; omega
  go_enter Try.func6, Try.ntmps6
  go_wp2_with fail
  refine (awake_any _).mono ?_
  rintro e w1 ⟨rfl, hb1⟩
  have HB1 := Lib.hid hb1
  clear hb1
  go_wp2_with (first
    | (go_at_call 9; (with_reducible refine (within_lit a 8 3 _ HQ.out a0 a1 (by omega) (by omega)).mono ?_); rintro e w' ⟨rfl, rfl⟩)
    | (go_at_call 18; (with_reducible refine (most_lit 4 _ _ _ HMR.out HMW.out).mono ?_); rintro e w' ⟨rfl, rfl⟩)
    | (go_at_call 9; (with_reducible refine (within_lit n M z _ HZ.out n0 n1 (by omega) (by omega)).mono ?_); rintro e w' ⟨rfl, rfl⟩)
    | (go_at_call 9; (with_reducible refine (within_lit u 5 o _ HO.out u0 u1 (by omega) (by omega)).mono ?_); rintro e w' ⟨rfl, rfl⟩)
    | (go_at_call 9; (with_reducible refine (within_lit t 65536 A _ HA.out t0 t1 (by omega) (by omega)).mono ?_); rintro e w' ⟨rfl, rfl⟩))
  obtain ⟨X, hX⟩ : ∃ X, w1.alloc (.cells #[.int .i64 4, .int .i64 A, .int .i64 N, .int .u16 0, .int .u16 0, .int .u16 0, .slice none 0 0, .slice none 0 0, .int .i64 0, .int .i64 0, .int .i64 0, .int .i64 0] 30) = X := ⟨_, rfl⟩
  have hs1 : (w1.alloc (.cells #[.int .i64 4, .int .i64 A, .int .i64 N, .int .u16 0, .int .u16 0, .int .u16 0, .slice none 0 0, .slice none 0 0, .int .i64 0, .int .i64 0, .int .i64 0, .int .i64 0] 30)).heap.size = w1.heap.size + 1 := by simp
  have h1a : WholeV (w1.alloc (.cells #[.int .i64 4, .int .i64 A, .int .i64 N, .int .u16 0, .int .u16 0, .int .u16 0, .slice none 0 0, .slice none 0 0, .int .i64 0, .int .i64 0, .int .i64 0, .int .i64 0] 30)) w1.heap.size 30 [.int .i64 4, .int .i64 A, .int .i64 N, .int .u16 0, .int .u16 0, .int .u16 0, .slice none 0 0, .slice none 0 0, .int .i64 0, .int .i64 0, .int .i64 0, .int .i64 0] := heap_alloc_new w1 _
  have h1 : WholeV X w1.heap.size 30 [.int .i64 4, .int .i64 A, .int .i64 N, .int .u16 0, .int .u16 0, .int .u16 0, .slice none 0 0, .slice none 0 0, .int .i64 0, .int .i64 0, .int .i64 0, .int .i64 0] := by rw [← hX]; exact h1a
  have hbx : Below w.heap.size w X := by rw [← hX]; exact HB1.out.alloc HB1.out.size _
  rw [hX]
  have H1 := Lib.hid h1
  have HBX := Lib.hid hbx
  have hlt1 : w1.heap.size < X.heap.size := h1.lt
  obtain ⟨hy0, hy1, hy2, hy3, hy4, hy5, hy6, hy7, hy8, hy9, hy10, hy11⟩ := cells12 h1
  clear hX hs1 h1a h1 hbx
  refine (pbytes_no 4 A N 0 0 0 0 0 0 0 0 0 none none 0 0 _ HWd.out HRt.out).mono ?_
  rintro e w3 ⟨rfl, hb3'⟩
  have hb3 : Below X.heap.size X w3 := hb3'
  have h3 := H1.out.below hb3 H1.out.lt
  have HB3 := Lib.hid (HBX.out.trans (hb3.mono HBX.out.size))
  obtain ⟨hq0, hq1, hq2, hq3, hq4, hq5, hq6, hq7, hq8, hq9, hq10, hq11⟩ := cells12 h3
  clear hb3 hb3' h3
  go_wp2_with fail
  refine (pright_no 4 A N 0 0 0 0 0 0 0 0 0 none none 0 0 _ HWd.out HRt.out).mono ?_
  rintro e w4 ⟨rfl, hb4⟩
  have HB4 := Lib.hid (HB3.out.trans (hb4.mono HB3.out.size))
  clear hb4
  go_wp2
  go_ret
  exact ⟨rfl, HB4.out⟩

set_option maxRecDepth 100000 in
set_option maxHeartbeats 2000000 in
theorem bounds_3_high (a t n u M O z o N A : Int) (w : World) (a0 : -9223372036854775808 ≤ a) (a1 : a ≤ 9223372036854775807) (t0 : -9223372036854775808 ≤ t) (t1 : t ≤ 9223372036854775807) (n0 : -9223372036854775808 ≤ n) (n1 : n ≤ 9223372036854775807) (u0 : -9223372036854775808 ≤ u) (u1 : u ≤ 9223372036854775807) (hq : a % 8 = 3) (ho : u % 5 = o) (hM : kMostR 4 = M) (hO : kMostW 4 = O) (hz : n % M = z) (hA : t % 65536 = A) (hN : #[Value.int .i64 0, .int .i64 1, .int .i64 M, .int .i64 (M + 1), .int .i64 (1 + z)][o.toNat]? = some (.int .i64 N)) (N0 : 0 ≤ N) (N1 : N ≤ M + 1) (hfine : M < N) :
    Calls Try.prog 6 #[.int .i64 a, .int .i64 t, .int .i64 n, .int .i64 u] w fun e w' => e = .returned (.bool true) ∧ Below w.heap.size w w' := by
  have m0 : 1 ≤ M := by rw [← hM]; decide
  have m1 : M ≤ 2000 := by rw [← hM]; decide
  have mo : 0 ≤ O := by rw [← hO]; decide
  have mo1 : O ≤ 2000 := by rw [← hO]; decide
  have z0 : 0 ≤ z := by rw [← hz]; exact Int.emod_nonneg _ (by omega)
  have z1 : z < M := by rw [← hz]; exact Int.emod_lt_of_pos _ (by omega)
  have o0 : 0 ≤ o := by omega
  have o1 : o < 5 := by omega
  have b0 : 0 ≤ A := by omega
  have b1 : A ≤ 65535 := by omega
  obtain ⟨k, hk⟩ : ∃ k : Nat, N = (k : Int) := ⟨N.toNat, by omega⟩
  have hrt : ¬ rightP 4 A N 0 0 0 0 0 0 0 0 0 := by
    intro h
    have h5 := h.2.2.2.2
    unfold fitsP at h5
    omega
  have hwd : Wide A N 0 0 0 0 0 0 0 := wide_of (by omega) (by omega) (by omega) (by omega) (by omega) (by omega) (by omega) (by omega) (by omega)
  have hix48 : ∀ W : World, (Instr.index 44 (.agg #[.int .i64 1, .int .i64 2, .int .i64 3, .int .i64 4, .int .i64 15, .int .i64 16, .int .i64 23, .int .i64 23]) (.int .i64 3)).run Try.prog W = .ok (.int .i64 4) W := fun W => run_index_ints _ 8 _ 3 _ W Try.underlying44 (by omega) (by omega) rfl
  have hix51 : ∀ W : World, (Instr.index 47 (.agg #[.int .i64 0, .int .i64 1, .int .i64 M, .int .i64 (M + 1), .int .i64 (1 + z)]) (.int .i64 o)).run Try.prog W = .ok (.int .i64 N) W := fun W => run_index_ints _ 5 _ o _ W Try.underlying47 o0 o1 hN
  have HQ := Lib.hid hq
  have HO := Lib.hid ho
  have HMR : Hid (kMostR 4 = M) := hM
  have HMW : Hid (kMostW 4 = O) := hO
  have HZ := Lib.hid hz
  have HA := Lib.hid hA
  have HK := Lib.hid hk
  have HRt := Lib.hid hrt
  have HWd := Lib.hid hwd
  clear hq ho hM hO hz hA hk hrt hwd hN
  have wz : IntKind.i64.wrap (1 + z) = 1 + z := IntWalk.i64_in _ (by omega)
  have wm : IntKind.i64.wrap (M + 1) = M + 1 := IntWalk.i64_in _ (by omega)
  have hmx : max O 0 = O := by omega
  have g0 : 1 ≤ N := by omega
  have hd : decide (N ≤ M) = false := by simp; omega
  go_enter Try.func6, Try.ntmps6
  go_wp2_with fail
  refine (awake_any _).mono ?_
  rintro e w1 ⟨rfl, hb1⟩
  have HB1 := Lib.hid hb1
  clear hb1
  go_wp2_with (first
    | (go_at_call 9; (with_reducible refine (within_lit a 8 3 _ HQ.out a0 a1 (by omega) (by omega)).mono ?_); rintro e w' ⟨rfl, rfl⟩)
    | (go_at_call 18; (with_reducible refine (most_lit 4 _ _ _ HMR.out HMW.out).mono ?_); rintro e w' ⟨rfl, rfl⟩)
    | (go_at_call 9; (with_reducible refine (within_lit n M z _ HZ.out n0 n1 (by omega) (by omega)).mono ?_); rintro e w' ⟨rfl, rfl⟩)
    | (go_at_call 9; (with_reducible refine (within_lit u 5 o _ HO.out u0 u1 (by omega) (by omega)).mono ?_); rintro e w' ⟨rfl, rfl⟩)
    | (go_at_call 9; (with_reducible refine (within_lit t 65536 A _ HA.out t0 t1 (by omega) (by omega)).mono ?_); rintro e w' ⟨rfl, rfl⟩))
  obtain ⟨X, hX⟩ : ∃ X, w1.alloc (.cells #[.int .i64 4, .int .i64 A, .int .i64 N, .int .u16 0, .int .u16 0, .int .u16 0, .slice none 0 0, .slice none 0 0, .int .i64 0, .int .i64 0, .int .i64 0, .int .i64 0] 30) = X := ⟨_, rfl⟩
  have hs1 : (w1.alloc (.cells #[.int .i64 4, .int .i64 A, .int .i64 N, .int .u16 0, .int .u16 0, .int .u16 0, .slice none 0 0, .slice none 0 0, .int .i64 0, .int .i64 0, .int .i64 0, .int .i64 0] 30)).heap.size = w1.heap.size + 1 := by simp
  have h1a : WholeV (w1.alloc (.cells #[.int .i64 4, .int .i64 A, .int .i64 N, .int .u16 0, .int .u16 0, .int .u16 0, .slice none 0 0, .slice none 0 0, .int .i64 0, .int .i64 0, .int .i64 0, .int .i64 0] 30)) w1.heap.size 30 [.int .i64 4, .int .i64 A, .int .i64 N, .int .u16 0, .int .u16 0, .int .u16 0, .slice none 0 0, .slice none 0 0, .int .i64 0, .int .i64 0, .int .i64 0, .int .i64 0] := heap_alloc_new w1 _
  have h1 : WholeV X w1.heap.size 30 [.int .i64 4, .int .i64 A, .int .i64 N, .int .u16 0, .int .u16 0, .int .u16 0, .slice none 0 0, .slice none 0 0, .int .i64 0, .int .i64 0, .int .i64 0, .int .i64 0] := by rw [← hX]; exact h1a
  have hbx : Below w.heap.size w X := by rw [← hX]; exact HB1.out.alloc HB1.out.size _
  rw [hX]
  have H1 := Lib.hid h1
  have HBX := Lib.hid hbx
  have hlt1 : w1.heap.size < X.heap.size := h1.lt
  obtain ⟨hy0, hy1, hy2, hy3, hy4, hy5, hy6, hy7, hy8, hy9, hy10, hy11⟩ := cells12 h1
  clear hX hs1 h1a h1 hbx
  refine (pbytes_no 4 A N 0 0 0 0 0 0 0 0 0 none none 0 0 _ HWd.out HRt.out).mono ?_
  rintro e w3 ⟨rfl, hb3'⟩
  have hb3 : Below X.heap.size X w3 := hb3'
  have h3 := H1.out.below hb3 H1.out.lt
  have HB3 := Lib.hid (HBX.out.trans (hb3.mono HBX.out.size))
  obtain ⟨hq0, hq1, hq2, hq3, hq4, hq5, hq6, hq7, hq8, hq9, hq10, hq11⟩ := cells12 h3
  clear hb3 hb3' h3
  go_wp2_with fail
  refine (pright_no 4 A N 0 0 0 0 0 0 0 0 0 none none 0 0 _ HWd.out HRt.out).mono ?_
  rintro e w4 ⟨rfl, hb4⟩
  have HB4 := Lib.hid (HB3.out.trans (hb4.mono HB3.out.size))
  clear hb4
  go_wp2
  go_ret
  exact ⟨rfl, HB4.out⟩

set_option maxRecDepth 100000 in
set_option maxHeartbeats 2000000 in
theorem bounds_4_yes (a t n u M O z o N A : Int) (w : World) (a0 : -9223372036854775808 ≤ a) (a1 : a ≤ 9223372036854775807) (t0 : -9223372036854775808 ≤ t) (t1 : t ≤ 9223372036854775807) (n0 : -9223372036854775808 ≤ n) (n1 : n ≤ 9223372036854775807) (u0 : -9223372036854775808 ≤ u) (u1 : u ≤ 9223372036854775807) (hq : a % 8 = 4) (ho : u % 5 = o) (hM : kMostW 15 = M) (hO : kMostR 15 = O) (hz : n % M = z) (hA : t % 65536 = A) (hN : #[Value.int .i64 0, .int .i64 1, .int .i64 M, .int .i64 (M + 1), .int .i64 (1 + z)][o.toNat]? = some (.int .i64 N)) (N0 : 0 ≤ N) (N1 : N ≤ M + 1) (hfine : 1 ≤ N ∧ N ≤ M) :
    Calls Try.prog 6 #[.int .i64 a, .int .i64 t, .int .i64 n, .int .i64 u] w fun e w' => e = .returned (.bool true) ∧ Below w.heap.size w w' := by
  have m0 : 1 ≤ M := by rw [← hM]; decide
  have m1 : M ≤ 2000 := by rw [← hM]; decide
  have mo : 0 ≤ O := by rw [← hO]; decide
  have mo1 : O ≤ 2000 := by rw [← hO]; decide
  have z0 : 0 ≤ z := by rw [← hz]; exact Int.emod_nonneg _ (by omega)
  have z1 : z < M := by rw [← hz]; exact Int.emod_lt_of_pos _ (by omega)
  have o0 : 0 ≤ o := by omega
  have o1 : o < 5 := by omega
  have b0 : 0 ≤ A := by omega
  have b1 : A ≤ 65535 := by omega
  obtain ⟨k, hk⟩ : ∃ k : Nat, N = (k : Int) := ⟨N.toNat, by omega⟩
  have hrt : rightP 15 A N 0 0 0 k 0 0 0 0 0 := by
    refine ⟨rfl, ?_, by omega, by omega, ?_⟩
    · unfold plainP; omega
    · have x1 : kMostR 23 = 125 := rfl
      have x2 : kMostW 23 = 121 := rfl
      unfold fitsP; omega
  have hwd : Wide A N 0 0 0 0 0 0 0 := wide_of (by omega) (by omega) (by omega) (by omega) (by omega) (by omega) (by omega) (by omega) (by omega)
  have hmk : ∀ W : World, (Instr.makeSlice 27 (.int .i64 N) (.int .i64 N)).run Try.prog W = .ok (.slice (some ⟨W.heap.size, 0, none⟩) k k) (W.alloc (.cells (List.replicate k (Value.bool false)).toArray 4)) := fun W => by
    rw [hk]; exact make_any (P := Try.prog) 27 4 (.bool false) 1 Try.underlying27 infoBool rfl k (by omega) (by omega) W
  have hix48 : ∀ W : World, (Instr.index 44 (.agg #[.int .i64 1, .int .i64 2, .int .i64 3, .int .i64 4, .int .i64 15, .int .i64 16, .int .i64 23, .int .i64 23]) (.int .i64 4)).run Try.prog W = .ok (.int .i64 15) W := fun W => run_index_ints _ 8 _ 4 _ W Try.underlying44 (by omega) (by omega) rfl
  have hix51 : ∀ W : World, (Instr.index 47 (.agg #[.int .i64 0, .int .i64 1, .int .i64 M, .int .i64 (M + 1), .int .i64 (1 + z)]) (.int .i64 o)).run Try.prog W = .ok (.int .i64 N) W := fun W => run_index_ints _ 5 _ o _ W Try.underlying47 o0 o1 hN
  have HQ := Lib.hid hq
  have HO := Lib.hid ho
  have HMR : Hid (kMostR 15 = O) := hO
  have HMW : Hid (kMostW 15 = M) := hM
  have HZ := Lib.hid hz
  have HA := Lib.hid hA
  have HK := Lib.hid hk
  have HRt := Lib.hid hrt
  have HWd := Lib.hid hwd
  clear hq ho hM hO hz hA hk hrt hwd hN
  have wz : IntKind.i64.wrap (1 + z) = 1 + z := IntWalk.i64_in _ (by omega)
  have wm : IntKind.i64.wrap (M + 1) = M + 1 := IntWalk.i64_in _ (by omega)
  have hmx : max M 0 = M := by omega
  obtain ⟨g0, g1⟩ := hfine
  go_enter Try.func6, Try.ntmps6
  go_wp2_with fail
  refine (awake_any _).mono ?_
  rintro e w1 ⟨rfl, hb1⟩
  have HB1 := Lib.hid hb1
  clear hb1
  go_wp2_with (first
    | (go_at_call 9; (with_reducible refine (within_lit a 8 4 _ HQ.out a0 a1 (by omega) (by omega)).mono ?_); rintro e w' ⟨rfl, rfl⟩)
    | (go_at_call 18; (with_reducible refine (most_lit 15 _ _ _ HMR.out HMW.out).mono ?_); rintro e w' ⟨rfl, rfl⟩)
    | (go_at_call 9; (with_reducible refine (within_lit n M z _ HZ.out n0 n1 (by omega) (by omega)).mono ?_); rintro e w' ⟨rfl, rfl⟩)
    | (go_at_call 9; (with_reducible refine (within_lit u 5 o _ HO.out u0 u1 (by omega) (by omega)).mono ?_); rintro e w' ⟨rfl, rfl⟩)
    | (go_at_call 9; (with_reducible refine (within_lit t 65536 A _ HA.out t0 t1 (by omega) (by omega)).mono ?_); rintro e w' ⟨rfl, rfl⟩))
  obtain ⟨X, hX⟩ : ∃ X, (w1.alloc (.cells #[.int .i64 15, .int .i64 A, .int .i64 N, .int .u16 0, .int .u16 0, .int .u16 0, .slice (some ⟨w1.heap.size + 1, 0, none⟩) k k, .slice none 0 0, .int .i64 0, .int .i64 0, .int .i64 0, .int .i64 0] 30)).alloc (.cells (Array.replicate k (Value.bool false)) 4) = X := ⟨_, rfl⟩
  have hs1 : (w1.alloc (.cells #[.int .i64 15, .int .i64 A, .int .i64 N, .int .u16 0, .int .u16 0, .int .u16 0, .slice (some ⟨w1.heap.size + 1, 0, none⟩) k k, .slice none 0 0, .int .i64 0, .int .i64 0, .int .i64 0, .int .i64 0] 30)).heap.size = w1.heap.size + 1 := by simp
  have h1a : WholeV (w1.alloc (.cells #[.int .i64 15, .int .i64 A, .int .i64 N, .int .u16 0, .int .u16 0, .int .u16 0, .slice (some ⟨w1.heap.size + 1, 0, none⟩) k k, .slice none 0 0, .int .i64 0, .int .i64 0, .int .i64 0, .int .i64 0] 30)) w1.heap.size 30 [.int .i64 15, .int .i64 A, .int .i64 N, .int .u16 0, .int .u16 0, .int .u16 0, .slice (some ⟨w1.heap.size + 1, 0, none⟩) k k, .slice none 0 0, .int .i64 0, .int .i64 0, .int .i64 0, .int .i64 0] := heap_alloc_new w1 _
  have h1 : WholeV X w1.heap.size 30 [.int .i64 15, .int .i64 A, .int .i64 N, .int .u16 0, .int .u16 0, .int .u16 0, .slice (some ⟨w1.heap.size + 1, 0, none⟩) k k, .slice none 0 0, .int .i64 0, .int .i64 0, .int .i64 0, .int .i64 0] := by rw [← hX]; exact h1a.below ((Below.refl _ _).alloc (Nat.le_refl _) _) h1a.lt
  have hbx : Below w.heap.size w X := by rw [← hX]; exact (HB1.out.alloc HB1.out.size _).alloc (by have := HB1.out.size; simp; omega) _
  have hl2 : WholeV X (w1.heap.size + 1) 4 ((List.replicate k false).map Value.bool) := by
    have h := heap_alloc_new (w1.alloc (.cells #[.int .i64 15, .int .i64 A, .int .i64 N, .int .u16 0, .int .u16 0, .int .u16 0, .slice (some ⟨w1.heap.size + 1, 0, none⟩) k k, .slice none 0 0, .int .i64 0, .int .i64 0, .int .i64 0, .int .i64 0] 30)) (.cells (Array.replicate k (Value.bool false)) 4)
    rw [hs1, hX] at h
    unfold WholeV; rw [List.map_replicate, List.toArray_replicate]; exact h
  have hrw := hl2.row
  rw [List.length_map, List.length_replicate] at hrw
  have HRow := Lib.hid hrw.bools
  clear hl2 hrw
  rw [hX]
  have H1 := Lib.hid h1
  have HBX := Lib.hid hbx
  have hlt1 : w1.heap.size < X.heap.size := h1.lt
  obtain ⟨hy0, hy1, hy2, hy3, hy4, hy5, hy6, hy7, hy8, hy9, hy10, hy11⟩ := cells12 h1
  clear hX hs1 h1a h1 hbx
  refine (pbytes_yes 15 A N 0 0 0 (List.replicate k false) [] 0 0 0 0 (some ⟨w1.heap.size + 1, 0, none⟩) none k 0 k 0 _ HWd.out HRt.out HRow.out (Row.nil _ _ _ _) words_nil).mono ?_
  rintro e w3 ⟨C, cap, rfl, ho, hb3'⟩
  have hb3 : Below X.heap.size X w3 := hb3'
  have hrl : rightP 15 A N 0 0 0 ((List.replicate k false) : List Bool).length ([] : List Int).length 0 0 0 0 := (by have h := HRt.out; simpa using h)
  have HRl := Lib.hid hrl
  clear hrl
  have hcnt := enc_count 15 A N 0 0 0 (List.replicate k false) [] 0 0 0 0 HRl.out 5 (by omega)
  have hbyt := enc_bytes A N 0 0 0 (List.replicate k false) [] 0 0 0 0 15 HRl.out HWd.out words_nil
  have hlen := enc_length A N 0 0 0 (List.replicate k false) [] 0 0 0 0 15 HRl.out
  have hturn := parse_turned 15 A N 0 0 0 (List.replicate k false) [] 0 0 0 0 HRl.out 5 (by omega)
  generalize hE : (enc 15 A N 0 0 0 (List.replicate k false) [] 0 0 0 0) = E at *
  clear hE
  obtain ⟨L, hL⟩ : ∃ L, E.length = L := ⟨_, rfl⟩
  obtain ⟨y, hy⟩ : ∃ y, E.getD 5 0 = y := ⟨_, rfl⟩
  have y0 : 0 ≤ y := by rw [← hy]; exact hcnt.1
  have y1 : y ≤ 246 := by rw [← hy]; exact hcnt.2.1
  have l0 : 5 < L := by rw [← hL]; exact hcnt.2.2
  have l1 : L ≤ 252 := by rw [← hL]; exact hlen.2.1
  have wy : IntKind.u8.wrap (y + 1) = y + 1 := IntWalk.u8_in _ (by omega)
  have HTurn := Lib.hid (hturn L hL (y + 1) (by rw [hy]))
  have HByt := Lib.hid (hbyt.set 5 (y + 1) (by omega) (by omega))
  rw [hL] at ho ⊢
  have hcap := own_cap ho
  obtain ⟨g, cap', hv, hgb, _⟩ := row_of_own ho (by omega)
  injection hv with e1 e2 e3
  subst e1 e3
  have HO3 := Lib.hid ho
  have HLen := Lib.hid hL
  have HY := Lib.hid hy
  have li : (5 : Int) < (L : Int) := by omega
  clear hcnt hbyt hlen hturn hL hy ho
  have h3 := H1.out.below hb3 H1.out.lt
  have HB3 := Lib.hid (HBX.out.trans (hb3.mono HBX.out.size))
  obtain ⟨hq0, hq1, hq2, hq3, hq4, hq5, hq6, hq7, hq8, hq9, hq10, hq11⟩ := cells12 h3
  clear hb3 hb3' h3
  go_wp2_with fail
  refine (pright_yes 15 A N 0 0 0 k 0 0 0 0 0 (some ⟨w1.heap.size + 1, 0, none⟩) none k 0 _ HWd.out HRt.out).mono ?_
  rintro e w4 ⟨rfl, hb4⟩
  have HB4 := Lib.hid (HB3.out.trans (hb4.mono HB3.out.size))
  have hO4 := own_keep HO3.out hb4
  obtain ⟨g', cc', hv, _, hrow, hfr, hset⟩ := own_open hO4 (by omega)
  injection hv with e1 e2 e3
  injection e1 with e1
  injection e1 with e1
  subst e1 e3
  obtain ⟨_, hrc⟩ := hrow
  obtain ⟨b', off', e', _, hcell⟩ := hrc (by omega)
  injection e' with e'
  injection e' with e1 e2
  subst e1 e2
  have hcg := hcell 5 l0
  rw [Nat.zero_add, List.getElem?_map, List.getElem?_eq_getElem (by rw [HLen.out]; exact l0), Option.map_some] at hcg
  have hyE : E[5]'(by rw [HLen.out]; exact l0) = y := by rw [← HY.out]; simp [List.getD, show 5 < E.length by rw [HLen.out]; exact l0]
  rw [hyE] at hcg
  have hfg := hfr 5
  have HO5 := Lib.hid (hset 5 (.int .u8 (y + 1)))
  have hsz4 : w.heap.size ≤ g := Nat.le_trans (Nat.le_trans HB1.out.size (Nat.le_of_lt hlt1)) hgb
  clear hb4 hO4 hfr hset hcell hrc hyE
  go_wp2_with fail
  have hr5 : Row .u8 (w4.setCell ⟨g, 5, none⟩ (.int .u8 (y + 1))) (w4.setCell ⟨g, 5, none⟩ (.int .u8 (y + 1))).heap.size (some ⟨g, 0, none⟩) L (E.set 5 (y + 1)) := by
    have h := own_row HO5.out
    rw [← List.map_set] at h
    exact h.ints
  refine (parse_not (E.set 5 (y + 1)) L cap _ _ 15 3 HTurn.out hr5 HByt.out (by omega) hcap).mono ?_
  rintro e w6 ⟨BB, WB, bd, wd, rfl, hb6⟩
  have hb5 : Below w.heap.size w (w4.setCell ⟨g, 5, none⟩ (.int .u8 (y + 1))) := HB4.out.setCell (p := ⟨g, 5, none⟩) hsz4 _
  have HB6 := Lib.hid (hb5.trans (hb6.mono hb5.size))
  clear hr5 hb5 hb6
  go_wp2
  go_ret
  exact ⟨rfl, HB6.out.alloc HB6.out.size _⟩

set_option maxRecDepth 100000 in
set_option maxHeartbeats 2000000 in
theorem bounds_4_low (a t n u M O z o N A : Int) (w : World) (a0 : -9223372036854775808 ≤ a) (a1 : a ≤ 9223372036854775807) (t0 : -9223372036854775808 ≤ t) (t1 : t ≤ 9223372036854775807) (n0 : -9223372036854775808 ≤ n) (n1 : n ≤ 9223372036854775807) (u0 : -9223372036854775808 ≤ u) (u1 : u ≤ 9223372036854775807) (hq : a % 8 = 4) (ho : u % 5 = o) (hM : kMostW 15 = M) (hO : kMostR 15 = O) (hz : n % M = z) (hA : t % 65536 = A) (hN : #[Value.int .i64 0, .int .i64 1, .int .i64 M, .int .i64 (M + 1), .int .i64 (1 + z)][o.toNat]? = some (.int .i64 N)) (N0 : 0 ≤ N) (N1 : N ≤ M + 1) (hfine : N < 1) :
    Calls Try.prog 6 #[.int .i64 a, .int .i64 t, .int .i64 n, .int .i64 u] w fun e w' => e = .returned (.bool true) ∧ Below w.heap.size w w' := by
  have m0 : 1 ≤ M := by rw [← hM]; decide
  have m1 : M ≤ 2000 := by rw [← hM]; decide
  have mo : 0 ≤ O := by rw [← hO]; decide
  have mo1 : O ≤ 2000 := by rw [← hO]; decide
  have z0 : 0 ≤ z := by rw [← hz]; exact Int.emod_nonneg _ (by omega)
  have z1 : z < M := by rw [← hz]; exact Int.emod_lt_of_pos _ (by omega)
  have o0 : 0 ≤ o := by omega
  have o1 : o < 5 := by omega
  have b0 : 0 ≤ A := by omega
  have b1 : A ≤ 65535 := by omega
  obtain ⟨k, hk⟩ : ∃ k : Nat, N = (k : Int) := ⟨N.toNat, by omega⟩
  have hrt : ¬ rightP 15 A N 0 0 0 k 0 0 0 0 0 := by
    intro h
    have h5 := h.2.2.2.2
    unfold fitsP at h5
    omega
  have hwd : Wide A N 0 0 0 0 0 0 0 := wide_of (by omega) (by omega) (by omega) (by omega) (by omega) (by omega) (by omega) (by omega) (by omega)
  have hmk : ∀ W : World, (Instr.makeSlice 27 (.int .i64 N) (.int .i64 N)).run Try.prog W = .ok (.slice (some ⟨W.heap.size, 0, none⟩) k k) (W.alloc (.cells (List.replicate k (Value.bool false)).toArray 4)) := fun W => by
    rw [hk]; exact make_any (P := Try.prog) 27 4 (.bool false) 1 Try.underlying27 infoBool rfl k (by omega) (by omega) W
  have hix48 : ∀ W : World, (Instr.index 44 (.agg #[.int .i64 1, .int .i64 2, .int .i64 3, .int .i64 4, .int .i64 15, .int .i64 16, .int .i64 23, .int .i64 23]) (.int .i64 4)).run Try.prog W = .ok (.int .i64 15) W := fun W => run_index_ints _ 8 _ 4 _ W Try.underlying44 (by omega) (by omega) rfl
  have hix51 : ∀ W : World, (Instr.index 47 (.agg #[.int .i64 0, .int .i64 1, .int .i64 M, .int .i64 (M + 1), .int .i64 (1 + z)]) (.int .i64 o)).run Try.prog W = .ok (.int .i64 N) W := fun W => run_index_ints _ 5 _ o _ W Try.underlying47 o0 o1 hN
  have HQ := Lib.hid hq
  have HO := Lib.hid ho
  have HMR : Hid (kMostR 15 = O) := hO
  have HMW : Hid (kMostW 15 = M) := hM
  have HZ := Lib.hid hz
  have HA := Lib.hid hA
  have HK := Lib.hid hk
  have HRt := Lib.hid hrt
  have HWd := Lib.hid hwd
  clear hq ho hM hO hz hA hk hrt hwd hN
  have wz : IntKind.i64.wrap (1 + z) = 1 + z := IntWalk.i64_in _ (by omega)
  have wm : IntKind.i64.wrap (M + 1) = M + 1 := IntWalk.i64_in _ (by omega)
  have hmx : max M 0 = M := by omega
  have hd : decide (1 ≤ N) = false := by simp; omega
  go_enter Try.func6, Try.ntmps6
  go_wp2_with fail
  refine (awake_any _).mono ?_
  rintro e w1 ⟨rfl, hb1⟩
  have HB1 := Lib.hid hb1
  clear hb1
  go_wp2_with (first
    | (go_at_call 9; (with_reducible refine (within_lit a 8 4 _ HQ.out a0 a1 (by omega) (by omega)).mono ?_); rintro e w' ⟨rfl, rfl⟩)
    | (go_at_call 18; (with_reducible refine (most_lit 15 _ _ _ HMR.out HMW.out).mono ?_); rintro e w' ⟨rfl, rfl⟩)
    | (go_at_call 9; (with_reducible refine (within_lit n M z _ HZ.out n0 n1 (by omega) (by omega)).mono ?_); rintro e w' ⟨rfl, rfl⟩)
    | (go_at_call 9; (with_reducible refine (within_lit u 5 o _ HO.out u0 u1 (by omega) (by omega)).mono ?_); rintro e w' ⟨rfl, rfl⟩)
    | (go_at_call 9; (with_reducible refine (within_lit t 65536 A _ HA.out t0 t1 (by omega) (by omega)).mono ?_); rintro e w' ⟨rfl, rfl⟩))
  obtain ⟨X, hX⟩ : ∃ X, (w1.alloc (.cells #[.int .i64 15, .int .i64 A, .int .i64 N, .int .u16 0, .int .u16 0, .int .u16 0, .slice (some ⟨w1.heap.size + 1, 0, none⟩) k k, .slice none 0 0, .int .i64 0, .int .i64 0, .int .i64 0, .int .i64 0] 30)).alloc (.cells (Array.replicate k (Value.bool false)) 4) = X := ⟨_, rfl⟩
  have hs1 : (w1.alloc (.cells #[.int .i64 15, .int .i64 A, .int .i64 N, .int .u16 0, .int .u16 0, .int .u16 0, .slice (some ⟨w1.heap.size + 1, 0, none⟩) k k, .slice none 0 0, .int .i64 0, .int .i64 0, .int .i64 0, .int .i64 0] 30)).heap.size = w1.heap.size + 1 := by simp
  have h1a : WholeV (w1.alloc (.cells #[.int .i64 15, .int .i64 A, .int .i64 N, .int .u16 0, .int .u16 0, .int .u16 0, .slice (some ⟨w1.heap.size + 1, 0, none⟩) k k, .slice none 0 0, .int .i64 0, .int .i64 0, .int .i64 0, .int .i64 0] 30)) w1.heap.size 30 [.int .i64 15, .int .i64 A, .int .i64 N, .int .u16 0, .int .u16 0, .int .u16 0, .slice (some ⟨w1.heap.size + 1, 0, none⟩) k k, .slice none 0 0, .int .i64 0, .int .i64 0, .int .i64 0, .int .i64 0] := heap_alloc_new w1 _
  have h1 : WholeV X w1.heap.size 30 [.int .i64 15, .int .i64 A, .int .i64 N, .int .u16 0, .int .u16 0, .int .u16 0, .slice (some ⟨w1.heap.size + 1, 0, none⟩) k k, .slice none 0 0, .int .i64 0, .int .i64 0, .int .i64 0, .int .i64 0] := by rw [← hX]; exact h1a.below ((Below.refl _ _).alloc (Nat.le_refl _) _) h1a.lt
  have hbx : Below w.heap.size w X := by rw [← hX]; exact (HB1.out.alloc HB1.out.size _).alloc (by have := HB1.out.size; simp; omega) _
  have hl2 : WholeV X (w1.heap.size + 1) 4 ((List.replicate k false).map Value.bool) := by
    have h := heap_alloc_new (w1.alloc (.cells #[.int .i64 15, .int .i64 A, .int .i64 N, .int .u16 0, .int .u16 0, .int .u16 0, .slice (some ⟨w1.heap.size + 1, 0, none⟩) k k, .slice none 0 0, .int .i64 0, .int .i64 0, .int .i64 0, .int .i64 0] 30)) (.cells (Array.replicate k (Value.bool false)) 4)
    rw [hs1, hX] at h
    unfold WholeV; rw [List.map_replicate, List.toArray_replicate]; exact h
  have hrw := hl2.row
  rw [List.length_map, List.length_replicate] at hrw
  have HRow := Lib.hid hrw.bools
  clear hl2 hrw
  rw [hX]
  have H1 := Lib.hid h1
  have HBX := Lib.hid hbx
  have hlt1 : w1.heap.size < X.heap.size := h1.lt
  obtain ⟨hy0, hy1, hy2, hy3, hy4, hy5, hy6, hy7, hy8, hy9, hy10, hy11⟩ := cells12 h1
  clear hX hs1 h1a h1 hbx
  refine (pbytes_no 15 A N 0 0 0 k 0 0 0 0 0 (some ⟨w1.heap.size + 1, 0, none⟩) none k 0 _ HWd.out HRt.out).mono ?_
  rintro e w3 ⟨rfl, hb3'⟩
  have hb3 : Below X.heap.size X w3 := hb3'
  have h3 := H1.out.below hb3 H1.out.lt
  have HB3 := Lib.hid (HBX.out.trans (hb3.mono HBX.out.size))
  obtain ⟨hq0, hq1, hq2, hq3, hq4, hq5, hq6, hq7, hq8, hq9, hq10, hq11⟩ := cells12 h3
  clear hb3 hb3' h3
  go_wp2_with fail
  refine (pright_no 15 A N 0 0 0 k 0 0 0 0 0 (some ⟨w1.heap.size + 1, 0, none⟩) none k 0 _ HWd.out HRt.out).mono ?_
  rintro e w4 ⟨rfl, hb4⟩
  have HB4 := Lib.hid (HB3.out.trans (hb4.mono HB3.out.size))
  clear hb4
  go_wp2
  go_ret
  exact ⟨rfl, HB4.out⟩

set_option maxRecDepth 100000 in
set_option maxHeartbeats 2000000 in
theorem bounds_4_high (a t n u M O z o N A : Int) (w : World) (a0 : -9223372036854775808 ≤ a) (a1 : a ≤ 9223372036854775807) (t0 : -9223372036854775808 ≤ t) (t1 : t ≤ 9223372036854775807) (n0 : -9223372036854775808 ≤ n) (n1 : n ≤ 9223372036854775807) (u0 : -9223372036854775808 ≤ u) (u1 : u ≤ 9223372036854775807) (hq : a % 8 = 4) (ho : u % 5 = o) (hM : kMostW 15 = M) (hO : kMostR 15 = O) (hz : n % M = z) (hA : t % 65536 = A) (hN : #[Value.int .i64 0, .int .i64 1, .int .i64 M, .int .i64 (M + 1), .int .i64 (1 + z)][o.toNat]? = some (.int .i64 N)) (N0 : 0 ≤ N) (N1 : N ≤ M + 1) (hfine : M < N) :
    Calls Try.prog 6 #[.int .i64 a, .int .i64 t, .int .i64 n, .int .i64 u] w fun e w' => e = .returned (.bool true) ∧ Below w.heap.size w w' := by
  have m0 : 1 ≤ M := by rw [← hM]; decide
  have m1 : M ≤ 2000 := by rw [← hM]; decide
  have mo : 0 ≤ O := by rw [← hO]; decide
  have mo1 : O ≤ 2000 := by rw [← hO]; decide
  have z0 : 0 ≤ z := by rw [← hz]; exact Int.emod_nonneg _ (by omega)
  have z1 : z < M := by rw [← hz]; exact Int.emod_lt_of_pos _ (by omega)
  have o0 : 0 ≤ o := by omega
  have o1 : o < 5 := by omega
  have b0 : 0 ≤ A := by omega
  have b1 : A ≤ 65535 := by omega
  obtain ⟨k, hk⟩ : ∃ k : Nat, N = (k : Int) := ⟨N.toNat, by omega⟩
  have hrt : ¬ rightP 15 A N 0 0 0 k 0 0 0 0 0 := by
    intro h
    have h5 := h.2.2.2.2
    unfold fitsP at h5
    omega
  have hwd : Wide A N 0 0 0 0 0 0 0 := wide_of (by omega) (by omega) (by omega) (by omega) (by omega) (by omega) (by omega) (by omega) (by omega)
  have hmk : ∀ W : World, (Instr.makeSlice 27 (.int .i64 N) (.int .i64 N)).run Try.prog W = .ok (.slice (some ⟨W.heap.size, 0, none⟩) k k) (W.alloc (.cells (List.replicate k (Value.bool false)).toArray 4)) := fun W => by
    rw [hk]; exact make_any (P := Try.prog) 27 4 (.bool false) 1 Try.underlying27 infoBool rfl k (by omega) (by omega) W
  have hix48 : ∀ W : World, (Instr.index 44 (.agg #[.int .i64 1, .int .i64 2, .int .i64 3, .int .i64 4, .int .i64 15, .int .i64 16, .int .i64 23, .int .i64 23]) (.int .i64 4)).run Try.prog W = .ok (.int .i64 15) W := fun W => run_index_ints _ 8 _ 4 _ W Try.underlying44 (by omega) (by omega) rfl
  have hix51 : ∀ W : World, (Instr.index 47 (.agg #[.int .i64 0, .int .i64 1, .int .i64 M, .int .i64 (M + 1), .int .i64 (1 + z)]) (.int .i64 o)).run Try.prog W = .ok (.int .i64 N) W := fun W => run_index_ints _ 5 _ o _ W Try.underlying47 o0 o1 hN
  have HQ := Lib.hid hq
  have HO := Lib.hid ho
  have HMR : Hid (kMostR 15 = O) := hO
  have HMW : Hid (kMostW 15 = M) := hM
  have HZ := Lib.hid hz
  have HA := Lib.hid hA
  have HK := Lib.hid hk
  have HRt := Lib.hid hrt
  have HWd := Lib.hid hwd
  clear hq ho hM hO hz hA hk hrt hwd hN
  have wz : IntKind.i64.wrap (1 + z) = 1 + z := IntWalk.i64_in _ (by omega)
  have wm : IntKind.i64.wrap (M + 1) = M + 1 := IntWalk.i64_in _ (by omega)
  have hmx : max M 0 = M := by omega
  have g0 : 1 ≤ N := by omega
  have hd : decide (N ≤ M) = false := by simp; omega
  go_enter Try.func6, Try.ntmps6
  go_wp2_with fail
  refine (awake_any _).mono ?_
  rintro e w1 ⟨rfl, hb1⟩
  have HB1 := Lib.hid hb1
  clear hb1
  go_wp2_with (first
    | (go_at_call 9; (with_reducible refine (within_lit a 8 4 _ HQ.out a0 a1 (by omega) (by omega)).mono ?_); rintro e w' ⟨rfl, rfl⟩)
    | (go_at_call 18; (with_reducible refine (most_lit 15 _ _ _ HMR.out HMW.out).mono ?_); rintro e w' ⟨rfl, rfl⟩)
    | (go_at_call 9; (with_reducible refine (within_lit n M z _ HZ.out n0 n1 (by omega) (by omega)).mono ?_); rintro e w' ⟨rfl, rfl⟩)
    | (go_at_call 9; (with_reducible refine (within_lit u 5 o _ HO.out u0 u1 (by omega) (by omega)).mono ?_); rintro e w' ⟨rfl, rfl⟩)
    | (go_at_call 9; (with_reducible refine (within_lit t 65536 A _ HA.out t0 t1 (by omega) (by omega)).mono ?_); rintro e w' ⟨rfl, rfl⟩))
  obtain ⟨X, hX⟩ : ∃ X, (w1.alloc (.cells #[.int .i64 15, .int .i64 A, .int .i64 N, .int .u16 0, .int .u16 0, .int .u16 0, .slice (some ⟨w1.heap.size + 1, 0, none⟩) k k, .slice none 0 0, .int .i64 0, .int .i64 0, .int .i64 0, .int .i64 0] 30)).alloc (.cells (Array.replicate k (Value.bool false)) 4) = X := ⟨_, rfl⟩
  have hs1 : (w1.alloc (.cells #[.int .i64 15, .int .i64 A, .int .i64 N, .int .u16 0, .int .u16 0, .int .u16 0, .slice (some ⟨w1.heap.size + 1, 0, none⟩) k k, .slice none 0 0, .int .i64 0, .int .i64 0, .int .i64 0, .int .i64 0] 30)).heap.size = w1.heap.size + 1 := by simp
  have h1a : WholeV (w1.alloc (.cells #[.int .i64 15, .int .i64 A, .int .i64 N, .int .u16 0, .int .u16 0, .int .u16 0, .slice (some ⟨w1.heap.size + 1, 0, none⟩) k k, .slice none 0 0, .int .i64 0, .int .i64 0, .int .i64 0, .int .i64 0] 30)) w1.heap.size 30 [.int .i64 15, .int .i64 A, .int .i64 N, .int .u16 0, .int .u16 0, .int .u16 0, .slice (some ⟨w1.heap.size + 1, 0, none⟩) k k, .slice none 0 0, .int .i64 0, .int .i64 0, .int .i64 0, .int .i64 0] := heap_alloc_new w1 _
  have h1 : WholeV X w1.heap.size 30 [.int .i64 15, .int .i64 A, .int .i64 N, .int .u16 0, .int .u16 0, .int .u16 0, .slice (some ⟨w1.heap.size + 1, 0, none⟩) k k, .slice none 0 0, .int .i64 0, .int .i64 0, .int .i64 0, .int .i64 0] := by rw [← hX]; exact h1a.below ((Below.refl _ _).alloc (Nat.le_refl _) _) h1a.lt
  have hbx : Below w.heap.size w X := by rw [← hX]; exact (HB1.out.alloc HB1.out.size _).alloc (by have := HB1.out.size; simp; omega) _
  have hl2 : WholeV X (w1.heap.size + 1) 4 ((List.replicate k false).map Value.bool) := by
    have h := heap_alloc_new (w1.alloc (.cells #[.int .i64 15, .int .i64 A, .int .i64 N, .int .u16 0, .int .u16 0, .int .u16 0, .slice (some ⟨w1.heap.size + 1, 0, none⟩) k k, .slice none 0 0, .int .i64 0, .int .i64 0, .int .i64 0, .int .i64 0] 30)) (.cells (Array.replicate k (Value.bool false)) 4)
    rw [hs1, hX] at h
    unfold WholeV; rw [List.map_replicate, List.toArray_replicate]; exact h
  have hrw := hl2.row
  rw [List.length_map, List.length_replicate] at hrw
  have HRow := Lib.hid hrw.bools
  clear hl2 hrw
  rw [hX]
  have H1 := Lib.hid h1
  have HBX := Lib.hid hbx
  have hlt1 : w1.heap.size < X.heap.size := h1.lt
  obtain ⟨hy0, hy1, hy2, hy3, hy4, hy5, hy6, hy7, hy8, hy9, hy10, hy11⟩ := cells12 h1
  clear hX hs1 h1a h1 hbx
  refine (pbytes_no 15 A N 0 0 0 k 0 0 0 0 0 (some ⟨w1.heap.size + 1, 0, none⟩) none k 0 _ HWd.out HRt.out).mono ?_
  rintro e w3 ⟨rfl, hb3'⟩
  have hb3 : Below X.heap.size X w3 := hb3'
  have h3 := H1.out.below hb3 H1.out.lt
  have HB3 := Lib.hid (HBX.out.trans (hb3.mono HBX.out.size))
  obtain ⟨hq0, hq1, hq2, hq3, hq4, hq5, hq6, hq7, hq8, hq9, hq10, hq11⟩ := cells12 h3
  clear hb3 hb3' h3
  go_wp2_with fail
  refine (pright_no 15 A N 0 0 0 k 0 0 0 0 0 (some ⟨w1.heap.size + 1, 0, none⟩) none k 0 _ HWd.out HRt.out).mono ?_
  rintro e w4 ⟨rfl, hb4⟩
  have HB4 := Lib.hid (HB3.out.trans (hb4.mono HB3.out.size))
  clear hb4
  go_wp2
  go_ret
  exact ⟨rfl, HB4.out⟩

set_option maxRecDepth 100000 in
set_option maxHeartbeats 2000000 in
theorem bounds_5_yes (a t n u M O z o N A : Int) (w : World) (a0 : -9223372036854775808 ≤ a) (a1 : a ≤ 9223372036854775807) (t0 : -9223372036854775808 ≤ t) (t1 : t ≤ 9223372036854775807) (n0 : -9223372036854775808 ≤ n) (n1 : n ≤ 9223372036854775807) (u0 : -9223372036854775808 ≤ u) (u1 : u ≤ 9223372036854775807) (hq : a % 8 = 5) (ho : u % 5 = o) (hM : kMostW 16 = M) (hO : kMostR 16 = O) (hz : n % M = z) (hA : t % 65536 = A) (hN : #[Value.int .i64 0, .int .i64 1, .int .i64 M, .int .i64 (M + 1), .int .i64 (1 + z)][o.toNat]? = some (.int .i64 N)) (N0 : 0 ≤ N) (N1 : N ≤ M + 1) (hfine : 1 ≤ N ∧ N ≤ M) :
    Calls Try.prog 6 #[.int .i64 a, .int .i64 t, .int .i64 n, .int .i64 u] w fun e w' => e = .returned (.bool true) ∧ Below w.heap.size w w' := by
  have m0 : 1 ≤ M := by rw [← hM]; decide
  have m1 : M ≤ 2000 := by rw [← hM]; decide
  have mo : 0 ≤ O := by rw [← hO]; decide
  have mo1 : O ≤ 2000 := by rw [← hO]; decide
  have z0 : 0 ≤ z := by rw [← hz]; exact Int.emod_nonneg _ (by omega)
  have z1 : z < M := by rw [← hz]; exact Int.emod_lt_of_pos _ (by omega)
  have o0 : 0 ≤ o := by omega
  have o1 : o < 5 := by omega
  have b0 : 0 ≤ A := by omega
  have b1 : A ≤ 65535 := by omega
  obtain ⟨k, hk⟩ : ∃ k : Nat, N = (k : Int) := ⟨N.toNat, by omega⟩
  have hrt : rightP 16 A N 0 0 0 0 k 0 0 0 0 := by
    refine ⟨rfl, ?_, by omega, by omega, ?_⟩
    · unfold plainP; omega
    · have x1 : kMostR 23 = 125 := rfl
      have x2 : kMostW 23 = 121 := rfl
      unfold fitsP; omega
  have hwd : Wide A N 0 0 0 0 0 0 0 := wide_of (by omega) (by omega) (by omega) (by omega) (by omega) (by omega) (by omega) (by omega) (by omega)
  have hmk : ∀ W : World, (Instr.makeSlice 28 (.int .i64 N) (.int .i64 N)).run Try.prog W = .ok (.slice (some ⟨W.heap.size, 0, none⟩) k k) (W.alloc (.cells (List.replicate k (Value.int .u16 0)).toArray 26)) := fun W => by
    rw [hk]; exact make_any (P := Try.prog) 28 26 (.int .u16 0) 2 Try.underlying28 infoW rfl k (by omega) (by omega) W
  have hix48 : ∀ W : World, (Instr.index 44 (.agg #[.int .i64 1, .int .i64 2, .int .i64 3, .int .i64 4, .int .i64 15, .int .i64 16, .int .i64 23, .int .i64 23]) (.int .i64 5)).run Try.prog W = .ok (.int .i64 16) W := fun W => run_index_ints _ 8 _ 5 _ W Try.underlying44 (by omega) (by omega) rfl
  have hix51 : ∀ W : World, (Instr.index 47 (.agg #[.int .i64 0, .int .i64 1, .int .i64 M, .int .i64 (M + 1), .int .i64 (1 + z)]) (.int .i64 o)).run Try.prog W = .ok (.int .i64 N) W := fun W => run_index_ints _ 5 _ o _ W Try.underlying47 o0 o1 hN
  have HQ := Lib.hid hq
  have HO := Lib.hid ho
  have HMR : Hid (kMostR 16 = O) := hO
  have HMW : Hid (kMostW 16 = M) := hM
  have HZ := Lib.hid hz
  have HA := Lib.hid hA
  have HK := Lib.hid hk
  have HRt := Lib.hid hrt
  have HWd := Lib.hid hwd
  clear hq ho hM hO hz hA hk hrt hwd hN
  have wz : IntKind.i64.wrap (1 + z) = 1 + z := IntWalk.i64_in _ (by omega)
  have wm : IntKind.i64.wrap (M + 1) = M + 1 := IntWalk.i64_in _ (by omega)
  have hmx : max M 0 = M := by omega
  obtain ⟨g0, g1⟩ := hfine
  go_enter Try.func6, Try.ntmps6
  go_wp2_with fail
  refine (awake_any _).mono ?_
  rintro e w1 ⟨rfl, hb1⟩
  have HB1 := Lib.hid hb1
  clear hb1
  go_wp2_with (first
    | (go_at_call 9; (with_reducible refine (within_lit a 8 5 _ HQ.out a0 a1 (by omega) (by omega)).mono ?_); rintro e w' ⟨rfl, rfl⟩)
    | (go_at_call 18; (with_reducible refine (most_lit 16 _ _ _ HMR.out HMW.out).mono ?_); rintro e w' ⟨rfl, rfl⟩)
    | (go_at_call 9; (with_reducible refine (within_lit n M z _ HZ.out n0 n1 (by omega) (by omega)).mono ?_); rintro e w' ⟨rfl, rfl⟩)
    | (go_at_call 9; (with_reducible refine (within_lit u 5 o _ HO.out u0 u1 (by omega) (by omega)).mono ?_); rintro e w' ⟨rfl, rfl⟩)
    | (go_at_call 9; (with_reducible refine (within_lit t 65536 A _ HA.out t0 t1 (by omega) (by omega)).mono ?_); rintro e w' ⟨rfl, rfl⟩))
  obtain ⟨X, hX⟩ : ∃ X, (w1.alloc (.cells #[.int .i64 16, .int .i64 A, .int .i64 N, .int .u16 0, .int .u16 0, .int .u16 0, .slice none 0 0, .slice (some ⟨w1.heap.size + 1, 0, none⟩) k k, .int .i64 0, .int .i64 0, .int .i64 0, .int .i64 0] 30)).alloc (.cells (Array.replicate k (Value.int .u16 0)) 26) = X := ⟨_, rfl⟩
  have hs1 : (w1.alloc (.cells #[.int .i64 16, .int .i64 A, .int .i64 N, .int .u16 0, .int .u16 0, .int .u16 0, .slice none 0 0, .slice (some ⟨w1.heap.size + 1, 0, none⟩) k k, .int .i64 0, .int .i64 0, .int .i64 0, .int .i64 0] 30)).heap.size = w1.heap.size + 1 := by simp
  have h1a : WholeV (w1.alloc (.cells #[.int .i64 16, .int .i64 A, .int .i64 N, .int .u16 0, .int .u16 0, .int .u16 0, .slice none 0 0, .slice (some ⟨w1.heap.size + 1, 0, none⟩) k k, .int .i64 0, .int .i64 0, .int .i64 0, .int .i64 0] 30)) w1.heap.size 30 [.int .i64 16, .int .i64 A, .int .i64 N, .int .u16 0, .int .u16 0, .int .u16 0, .slice none 0 0, .slice (some ⟨w1.heap.size + 1, 0, none⟩) k k, .int .i64 0, .int .i64 0, .int .i64 0, .int .i64 0] := heap_alloc_new w1 _
  have h1 : WholeV X w1.heap.size 30 [.int .i64 16, .int .i64 A, .int .i64 N, .int .u16 0, .int .u16 0, .int .u16 0, .slice none 0 0, .slice (some ⟨w1.heap.size + 1, 0, none⟩) k k, .int .i64 0, .int .i64 0, .int .i64 0, .int .i64 0] := by rw [← hX]; exact h1a.below ((Below.refl _ _).alloc (Nat.le_refl _) _) h1a.lt
  have hbx : Below w.heap.size w X := by rw [← hX]; exact (HB1.out.alloc HB1.out.size _).alloc (by have := HB1.out.size; simp; omega) _
  have hl2 : WholeV X (w1.heap.size + 1) 26 ((List.replicate k (0 : Int)).map (Value.int .u16)) := by
    have h := heap_alloc_new (w1.alloc (.cells #[.int .i64 16, .int .i64 A, .int .i64 N, .int .u16 0, .int .u16 0, .int .u16 0, .slice none 0 0, .slice (some ⟨w1.heap.size + 1, 0, none⟩) k k, .int .i64 0, .int .i64 0, .int .i64 0, .int .i64 0] 30)) (.cells (Array.replicate k (Value.int .u16 0)) 26)
    rw [hs1, hX] at h
    unfold WholeV; rw [List.map_replicate, List.toArray_replicate]; exact h
  have hrw := hl2.row
  rw [List.length_map, List.length_replicate] at hrw
  have HRow := Lib.hid hrw.ints
  clear hl2 hrw
  rw [hX]
  have H1 := Lib.hid h1
  have HBX := Lib.hid hbx
  have hlt1 : w1.heap.size < X.heap.size := h1.lt
  obtain ⟨hy0, hy1, hy2, hy3, hy4, hy5, hy6, hy7, hy8, hy9, hy10, hy11⟩ := cells12 h1
  clear hX hs1 h1a h1 hbx
  refine (pbytes_yes 16 A N 0 0 0 [] (List.replicate k 0) 0 0 0 0 none (some ⟨w1.heap.size + 1, 0, none⟩) 0 k 0 k _ HWd.out HRt.out BRow.nil HRow.out (fun x hx => by have := List.eq_of_mem_replicate hx; omega)).mono ?_
  rintro e w3 ⟨C, cap, rfl, ho, hb3'⟩
  have hb3 : Below X.heap.size X w3 := hb3'
  have hrl : rightP 16 A N 0 0 0 ([] : List Bool).length ((List.replicate k 0) : List Int).length 0 0 0 0 := (by have h := HRt.out; simpa using h)
  have HRl := Lib.hid hrl
  clear hrl
  have hcnt := enc_count 16 A N 0 0 0 [] (List.replicate k 0) 0 0 0 0 HRl.out 5 (by omega)
  have hbyt := enc_bytes A N 0 0 0 [] (List.replicate k 0) 0 0 0 0 16 HRl.out HWd.out (fun x hx => by have := List.eq_of_mem_replicate hx; omega)
  have hlen := enc_length A N 0 0 0 [] (List.replicate k 0) 0 0 0 0 16 HRl.out
  have hturn := parse_turned 16 A N 0 0 0 [] (List.replicate k 0) 0 0 0 0 HRl.out 5 (by omega)
  generalize hE : (enc 16 A N 0 0 0 [] (List.replicate k 0) 0 0 0 0) = E at *
  clear hE
  obtain ⟨L, hL⟩ : ∃ L, E.length = L := ⟨_, rfl⟩
  obtain ⟨y, hy⟩ : ∃ y, E.getD 5 0 = y := ⟨_, rfl⟩
  have y0 : 0 ≤ y := by rw [← hy]; exact hcnt.1
  have y1 : y ≤ 246 := by rw [← hy]; exact hcnt.2.1
  have l0 : 5 < L := by rw [← hL]; exact hcnt.2.2
  have l1 : L ≤ 252 := by rw [← hL]; exact hlen.2.1
  have wy : IntKind.u8.wrap (y + 1) = y + 1 := IntWalk.u8_in _ (by omega)
  have HTurn := Lib.hid (hturn L hL (y + 1) (by rw [hy]))
  have HByt := Lib.hid (hbyt.set 5 (y + 1) (by omega) (by omega))
  rw [hL] at ho ⊢
  have hcap := own_cap ho
  obtain ⟨g, cap', hv, hgb, _⟩ := row_of_own ho (by omega)
  injection hv with e1 e2 e3
  subst e1 e3
  have HO3 := Lib.hid ho
  have HLen := Lib.hid hL
  have HY := Lib.hid hy
  have li : (5 : Int) < (L : Int) := by omega
  clear hcnt hbyt hlen hturn hL hy ho
  have h3 := H1.out.below hb3 H1.out.lt
  have HB3 := Lib.hid (HBX.out.trans (hb3.mono HBX.out.size))
  obtain ⟨hq0, hq1, hq2, hq3, hq4, hq5, hq6, hq7, hq8, hq9, hq10, hq11⟩ := cells12 h3
  clear hb3 hb3' h3
  go_wp2_with fail
  refine (pright_yes 16 A N 0 0 0 0 k 0 0 0 0 none (some ⟨w1.heap.size + 1, 0, none⟩) 0 k _ HWd.out HRt.out).mono ?_
  rintro e w4 ⟨rfl, hb4⟩
  have HB4 := Lib.hid (HB3.out.trans (hb4.mono HB3.out.size))
  have hO4 := own_keep HO3.out hb4
  obtain ⟨g', cc', hv, _, hrow, hfr, hset⟩ := own_open hO4 (by omega)
  injection hv with e1 e2 e3
  injection e1 with e1
  injection e1 with e1
  subst e1 e3
  obtain ⟨_, hrc⟩ := hrow
  obtain ⟨b', off', e', _, hcell⟩ := hrc (by omega)
  injection e' with e'
  injection e' with e1 e2
  subst e1 e2
  have hcg := hcell 5 l0
  rw [Nat.zero_add, List.getElem?_map, List.getElem?_eq_getElem (by rw [HLen.out]; exact l0), Option.map_some] at hcg
  have hyE : E[5]'(by rw [HLen.out]; exact l0) = y := by rw [← HY.out]; simp [List.getD, show 5 < E.length by rw [HLen.out]; exact l0]
  rw [hyE] at hcg
  have hfg := hfr 5
  have HO5 := Lib.hid (hset 5 (.int .u8 (y + 1)))
  have hsz4 : w.heap.size ≤ g := Nat.le_trans (Nat.le_trans HB1.out.size (Nat.le_of_lt hlt1)) hgb
  clear hb4 hO4 hfr hset hcell hrc hyE
  go_wp2_with fail
  have hr5 : Row .u8 (w4.setCell ⟨g, 5, none⟩ (.int .u8 (y + 1))) (w4.setCell ⟨g, 5, none⟩ (.int .u8 (y + 1))).heap.size (some ⟨g, 0, none⟩) L (E.set 5 (y + 1)) := by
    have h := own_row HO5.out
    rw [← List.map_set] at h
    exact h.ints
  refine (parse_not (E.set 5 (y + 1)) L cap _ _ 16 3 HTurn.out hr5 HByt.out (by omega) hcap).mono ?_
  rintro e w6 ⟨BB, WB, bd, wd, rfl, hb6⟩
  have hb5 : Below w.heap.size w (w4.setCell ⟨g, 5, none⟩ (.int .u8 (y + 1))) := HB4.out.setCell (p := ⟨g, 5, none⟩) hsz4 _
  have HB6 := Lib.hid (hb5.trans (hb6.mono hb5.size))
  clear hr5 hb5 hb6
  go_wp2
  go_ret
  exact ⟨rfl, HB6.out.alloc HB6.out.size _⟩

set_option maxRecDepth 100000 in
set_option maxHeartbeats 2000000 in
theorem bounds_5_low (a t n u M O z o N A : Int) (w : World) (a0 : -9223372036854775808 ≤ a) (a1 : a ≤ 9223372036854775807) (t0 : -9223372036854775808 ≤ t) (t1 : t ≤ 9223372036854775807) (n0 : -9223372036854775808 ≤ n) (n1 : n ≤ 9223372036854775807) (u0 : -9223372036854775808 ≤ u) (u1 : u ≤ 9223372036854775807) (hq : a % 8 = 5) (ho : u % 5 = o) (hM : kMostW 16 = M) (hO : kMostR 16 = O) (hz : n % M = z) (hA : t % 65536 = A) (hN : #[Value.int .i64 0, .int .i64 1, .int .i64 M, .int .i64 (M + 1), .int .i64 (1 + z)][o.toNat]? = some (.int .i64 N)) (N0 : 0 ≤ N) (N1 : N ≤ M + 1) (hfine : N < 1) :
    Calls Try.prog 6 #[.int .i64 a, .int .i64 t, .int .i64 n, .int .i64 u] w fun e w' => e = .returned (.bool true) ∧ Below w.heap.size w w' := by
  have m0 : 1 ≤ M := by rw [← hM]; decide
  have m1 : M ≤ 2000 := by rw [← hM]; decide
  have mo : 0 ≤ O := by rw [← hO]; decide
  have mo1 : O ≤ 2000 := by rw [← hO]; decide
  have z0 : 0 ≤ z := by rw [← hz]; exact Int.emod_nonneg _ (by omega)
  have z1 : z < M := by rw [← hz]; exact Int.emod_lt_of_pos _ (by omega)
  have o0 : 0 ≤ o := by omega
  have o1 : o < 5 := by omega
  have b0 : 0 ≤ A := by omega
  have b1 : A ≤ 65535 := by omega
  obtain ⟨k, hk⟩ : ∃ k : Nat, N = (k : Int) := ⟨N.toNat, by omega⟩
  have hrt : ¬ rightP 16 A N 0 0 0 0 k 0 0 0 0 := by
    intro h
    have h5 := h.2.2.2.2
    unfold fitsP at h5
    omega
  have hwd : Wide A N 0 0 0 0 0 0 0 := wide_of (by omega) (by omega) (by omega) (by omega) (by omega) (by omega) (by omega) (by omega) (by omega)
  have hmk : ∀ W : World, (Instr.makeSlice 28 (.int .i64 N) (.int .i64 N)).run Try.prog W = .ok (.slice (some ⟨W.heap.size, 0, none⟩) k k) (W.alloc (.cells (List.replicate k (Value.int .u16 0)).toArray 26)) := fun W => by
    rw [hk]; exact make_any (P := Try.prog) 28 26 (.int .u16 0) 2 Try.underlying28 infoW rfl k (by omega) (by omega) W
  have hix48 : ∀ W : World, (Instr.index 44 (.agg #[.int .i64 1, .int .i64 2, .int .i64 3, .int .i64 4, .int .i64 15, .int .i64 16, .int .i64 23, .int .i64 23]) (.int .i64 5)).run Try.prog W = .ok (.int .i64 16) W := fun W => run_index_ints _ 8 _ 5 _ W Try.underlying44 (by omega) (by omega) rfl
  have hix51 : ∀ W : World, (Instr.index 47 (.agg #[.int .i64 0, .int .i64 1, .int .i64 M, .int .i64 (M + 1), .int .i64 (1 + z)]) (.int .i64 o)).run Try.prog W = .ok (.int .i64 N) W := fun W => run_index_ints _ 5 _ o _ W Try.underlying47 o0 o1 hN
  have HQ := Lib.hid hq
  have HO := Lib.hid ho
  have HMR : Hid (kMostR 16 = O) := hO
  have HMW : Hid (kMostW 16 = M) := hM
  have HZ := Lib.hid hz
  have HA := Lib.hid hA
  have HK := Lib.hid hk
  have HRt := Lib.hid hrt
  have HWd := Lib.hid hwd
  clear hq ho hM hO hz hA hk hrt hwd hN
  have wz : IntKind.i64.wrap (1 + z) = 1 + z := IntWalk.i64_in _ (by omega)
  have wm : IntKind.i64.wrap (M + 1) = M + 1 := IntWalk.i64_in _ (by omega)
  have hmx : max M 0 = M := by omega
  have hd : decide (1 ≤ N) = false := by simp; omega
  go_enter Try.func6, Try.ntmps6
  go_wp2_with fail
  refine (awake_any _).mono ?_
  rintro e w1 ⟨rfl, hb1⟩
  have HB1 := Lib.hid hb1
  clear hb1
  go_wp2_with (first
    | (go_at_call 9; (with_reducible refine (within_lit a 8 5 _ HQ.out a0 a1 (by omega) (by omega)).mono ?_); rintro e w' ⟨rfl, rfl⟩)
    | (go_at_call 18; (with_reducible refine (most_lit 16 _ _ _ HMR.out HMW.out).mono ?_); rintro e w' ⟨rfl, rfl⟩)
    | (go_at_call 9; (with_reducible refine (within_lit n M z _ HZ.out n0 n1 (by omega) (by omega)).mono ?_); rintro e w' ⟨rfl, rfl⟩)
    | (go_at_call 9; (with_reducible refine (within_lit u 5 o _ HO.out u0 u1 (by omega) (by omega)).mono ?_); rintro e w' ⟨rfl, rfl⟩)
    | (go_at_call 9; (with_reducible refine (within_lit t 65536 A _ HA.out t0 t1 (by omega) (by omega)).mono ?_); rintro e w' ⟨rfl, rfl⟩))
  obtain ⟨X, hX⟩ : ∃ X, (w1.alloc (.cells #[.int .i64 16, .int .i64 A, .int .i64 N, .int .u16 0, .int .u16 0, .int .u16 0, .slice none 0 0, .slice (some ⟨w1.heap.size + 1, 0, none⟩) k k, .int .i64 0, .int .i64 0, .int .i64 0, .int .i64 0] 30)).alloc (.cells (Array.replicate k (Value.int .u16 0)) 26) = X := ⟨_, rfl⟩
  have hs1 : (w1.alloc (.cells #[.int .i64 16, .int .i64 A, .int .i64 N, .int .u16 0, .int .u16 0, .int .u16 0, .slice none 0 0, .slice (some ⟨w1.heap.size + 1, 0, none⟩) k k, .int .i64 0, .int .i64 0, .int .i64 0, .int .i64 0] 30)).heap.size = w1.heap.size + 1 := by simp
  have h1a : WholeV (w1.alloc (.cells #[.int .i64 16, .int .i64 A, .int .i64 N, .int .u16 0, .int .u16 0, .int .u16 0, .slice none 0 0, .slice (some ⟨w1.heap.size + 1, 0, none⟩) k k, .int .i64 0, .int .i64 0, .int .i64 0, .int .i64 0] 30)) w1.heap.size 30 [.int .i64 16, .int .i64 A, .int .i64 N, .int .u16 0, .int .u16 0, .int .u16 0, .slice none 0 0, .slice (some ⟨w1.heap.size + 1, 0, none⟩) k k, .int .i64 0, .int .i64 0, .int .i64 0, .int .i64 0] := heap_alloc_new w1 _
  have h1 : WholeV X w1.heap.size 30 [.int .i64 16, .int .i64 A, .int .i64 N, .int .u16 0, .int .u16 0, .int .u16 0, .slice none 0 0, .slice (some ⟨w1.heap.size + 1, 0, none⟩) k k, .int .i64 0, .int .i64 0, .int .i64 0, .int .i64 0] := by rw [← hX]; exact h1a.below ((Below.refl _ _).alloc (Nat.le_refl _) _) h1a.lt
  have hbx : Below w.heap.size w X := by rw [← hX]; exact (HB1.out.alloc HB1.out.size _).alloc (by have := HB1.out.size; simp; omega) _
  have hl2 : WholeV X (w1.heap.size + 1) 26 ((List.replicate k (0 : Int)).map (Value.int .u16)) := by
    have h := heap_alloc_new (w1.alloc (.cells #[.int .i64 16, .int .i64 A, .int .i64 N, .int .u16 0, .int .u16 0, .int .u16 0, .slice none 0 0, .slice (some ⟨w1.heap.size + 1, 0, none⟩) k k, .int .i64 0, .int .i64 0, .int .i64 0, .int .i64 0] 30)) (.cells (Array.replicate k (Value.int .u16 0)) 26)
    rw [hs1, hX] at h
    unfold WholeV; rw [List.map_replicate, List.toArray_replicate]; exact h
  have hrw := hl2.row
  rw [List.length_map, List.length_replicate] at hrw
  have HRow := Lib.hid hrw.ints
  clear hl2 hrw
  rw [hX]
  have H1 := Lib.hid h1
  have HBX := Lib.hid hbx
  have hlt1 : w1.heap.size < X.heap.size := h1.lt
  obtain ⟨hy0, hy1, hy2, hy3, hy4, hy5, hy6, hy7, hy8, hy9, hy10, hy11⟩ := cells12 h1
  clear hX hs1 h1a h1 hbx
  refine (pbytes_no 16 A N 0 0 0 0 k 0 0 0 0 none (some ⟨w1.heap.size + 1, 0, none⟩) 0 k _ HWd.out HRt.out).mono ?_
  rintro e w3 ⟨rfl, hb3'⟩
  have hb3 : Below X.heap.size X w3 := hb3'
  have h3 := H1.out.below hb3 H1.out.lt
  have HB3 := Lib.hid (HBX.out.trans (hb3.mono HBX.out.size))
  obtain ⟨hq0, hq1, hq2, hq3, hq4, hq5, hq6, hq7, hq8, hq9, hq10, hq11⟩ := cells12 h3
  clear hb3 hb3' h3
  go_wp2_with fail
  refine (pright_no 16 A N 0 0 0 0 k 0 0 0 0 none (some ⟨w1.heap.size + 1, 0, none⟩) 0 k _ HWd.out HRt.out).mono ?_
  rintro e w4 ⟨rfl, hb4⟩
  have HB4 := Lib.hid (HB3.out.trans (hb4.mono HB3.out.size))
  clear hb4
  go_wp2
  go_ret
  exact ⟨rfl, HB4.out⟩

set_option maxRecDepth 100000 in
set_option maxHeartbeats 2000000 in
theorem bounds_5_high (a t n u M O z o N A : Int) (w : World) (a0 : -9223372036854775808 ≤ a) (a1 : a ≤ 9223372036854775807) (t0 : -9223372036854775808 ≤ t) (t1 : t ≤ 9223372036854775807) (n0 : -9223372036854775808 ≤ n) (n1 : n ≤ 9223372036854775807) (u0 : -9223372036854775808 ≤ u) (u1 : u ≤ 9223372036854775807) (hq : a % 8 = 5) (ho : u % 5 = o) (hM : kMostW 16 = M) (hO : kMostR 16 = O) (hz : n % M = z) (hA : t % 65536 = A) (hN : #[Value.int .i64 0, .int .i64 1, .int .i64 M, .int .i64 (M + 1), .int .i64 (1 + z)][o.toNat]? = some (.int .i64 N)) (N0 : 0 ≤ N) (N1 : N ≤ M + 1) (hfine : M < N) :
    Calls Try.prog 6 #[.int .i64 a, .int .i64 t, .int .i64 n, .int .i64 u] w fun e w' => e = .returned (.bool true) ∧ Below w.heap.size w w' := by
  have m0 : 1 ≤ M := by rw [← hM]; decide
  have m1 : M ≤ 2000 := by rw [← hM]; decide
  have mo : 0 ≤ O := by rw [← hO]; decide
  have mo1 : O ≤ 2000 := by rw [← hO]; decide
  have z0 : 0 ≤ z := by rw [← hz]; exact Int.emod_nonneg _ (by omega)
  have z1 : z < M := by rw [← hz]; exact Int.emod_lt_of_pos _ (by omega)
  have o0 : 0 ≤ o := by omega
  have o1 : o < 5 := by omega
  have b0 : 0 ≤ A := by omega
  have b1 : A ≤ 65535 := by omega
  obtain ⟨k, hk⟩ : ∃ k : Nat, N = (k : Int) := ⟨N.toNat, by omega⟩
  have hrt : ¬ rightP 16 A N 0 0 0 0 k 0 0 0 0 := by
    intro h
    have h5 := h.2.2.2.2
    unfold fitsP at h5
    omega
  have hwd : Wide A N 0 0 0 0 0 0 0 := wide_of (by omega) (by omega) (by omega) (by omega) (by omega) (by omega) (by omega) (by omega) (by omega)
  have hmk : ∀ W : World, (Instr.makeSlice 28 (.int .i64 N) (.int .i64 N)).run Try.prog W = .ok (.slice (some ⟨W.heap.size, 0, none⟩) k k) (W.alloc (.cells (List.replicate k (Value.int .u16 0)).toArray 26)) := fun W => by
    rw [hk]; exact make_any (P := Try.prog) 28 26 (.int .u16 0) 2 Try.underlying28 infoW rfl k (by omega) (by omega) W
  have hix48 : ∀ W : World, (Instr.index 44 (.agg #[.int .i64 1, .int .i64 2, .int .i64 3, .int .i64 4, .int .i64 15, .int .i64 16, .int .i64 23, .int .i64 23]) (.int .i64 5)).run Try.prog W = .ok (.int .i64 16) W := fun W => run_index_ints _ 8 _ 5 _ W Try.underlying44 (by omega) (by omega) rfl
  have hix51 : ∀ W : World, (Instr.index 47 (.agg #[.int .i64 0, .int .i64 1, .int .i64 M, .int .i64 (M + 1), .int .i64 (1 + z)]) (.int .i64 o)).run Try.prog W = .ok (.int .i64 N) W := fun W => run_index_ints _ 5 _ o _ W Try.underlying47 o0 o1 hN
  have HQ := Lib.hid hq
  have HO := Lib.hid ho
  have HMR : Hid (kMostR 16 = O) := hO
  have HMW : Hid (kMostW 16 = M) := hM
  have HZ := Lib.hid hz
  have HA := Lib.hid hA
  have HK := Lib.hid hk
  have HRt := Lib.hid hrt
  have HWd := Lib.hid hwd
  clear hq ho hM hO hz hA hk hrt hwd hN
  have wz : IntKind.i64.wrap (1 + z) = 1 + z := IntWalk.i64_in _ (by omega)
  have wm : IntKind.i64.wrap (M + 1) = M + 1 := IntWalk.i64_in _ (by omega)
  have hmx : max M 0 = M := by omega
  have g0 : 1 ≤ N := by omega
  have hd : decide (N ≤ M) = false := by simp; omega
  go_enter Try.func6, Try.ntmps6
  go_wp2_with fail
  refine (awake_any _).mono ?_
  rintro e w1 ⟨rfl, hb1⟩
  have HB1 := Lib.hid hb1
  clear hb1
  go_wp2_with (first
    | (go_at_call 9; (with_reducible refine (within_lit a 8 5 _ HQ.out a0 a1 (by omega) (by omega)).mono ?_); rintro e w' ⟨rfl, rfl⟩)
    | (go_at_call 18; (with_reducible refine (most_lit 16 _ _ _ HMR.out HMW.out).mono ?_); rintro e w' ⟨rfl, rfl⟩)
    | (go_at_call 9; (with_reducible refine (within_lit n M z _ HZ.out n0 n1 (by omega) (by omega)).mono ?_); rintro e w' ⟨rfl, rfl⟩)
    | (go_at_call 9; (with_reducible refine (within_lit u 5 o _ HO.out u0 u1 (by omega) (by omega)).mono ?_); rintro e w' ⟨rfl, rfl⟩)
    | (go_at_call 9; (with_reducible refine (within_lit t 65536 A _ HA.out t0 t1 (by omega) (by omega)).mono ?_); rintro e w' ⟨rfl, rfl⟩))
  obtain ⟨X, hX⟩ : ∃ X, (w1.alloc (.cells #[.int .i64 16, .int .i64 A, .int .i64 N, .int .u16 0, .int .u16 0, .int .u16 0, .slice none 0 0, .slice (some ⟨w1.heap.size + 1, 0, none⟩) k k, .int .i64 0, .int .i64 0, .int .i64 0, .int .i64 0] 30)).alloc (.cells (Array.replicate k (Value.int .u16 0)) 26) = X := ⟨_, rfl⟩
  have hs1 : (w1.alloc (.cells #[.int .i64 16, .int .i64 A, .int .i64 N, .int .u16 0, .int .u16 0, .int .u16 0, .slice none 0 0, .slice (some ⟨w1.heap.size + 1, 0, none⟩) k k, .int .i64 0, .int .i64 0, .int .i64 0, .int .i64 0] 30)).heap.size = w1.heap.size + 1 := by simp
  have h1a : WholeV (w1.alloc (.cells #[.int .i64 16, .int .i64 A, .int .i64 N, .int .u16 0, .int .u16 0, .int .u16 0, .slice none 0 0, .slice (some ⟨w1.heap.size + 1, 0, none⟩) k k, .int .i64 0, .int .i64 0, .int .i64 0, .int .i64 0] 30)) w1.heap.size 30 [.int .i64 16, .int .i64 A, .int .i64 N, .int .u16 0, .int .u16 0, .int .u16 0, .slice none 0 0, .slice (some ⟨w1.heap.size + 1, 0, none⟩) k k, .int .i64 0, .int .i64 0, .int .i64 0, .int .i64 0] := heap_alloc_new w1 _
  have h1 : WholeV X w1.heap.size 30 [.int .i64 16, .int .i64 A, .int .i64 N, .int .u16 0, .int .u16 0, .int .u16 0, .slice none 0 0, .slice (some ⟨w1.heap.size + 1, 0, none⟩) k k, .int .i64 0, .int .i64 0, .int .i64 0, .int .i64 0] := by rw [← hX]; exact h1a.below ((Below.refl _ _).alloc (Nat.le_refl _) _) h1a.lt
  have hbx : Below w.heap.size w X := by rw [← hX]; exact (HB1.out.alloc HB1.out.size _).alloc (by have := HB1.out.size; simp; omega) _
  have hl2 : WholeV X (w1.heap.size + 1) 26 ((List.replicate k (0 : Int)).map (Value.int .u16)) := by
    have h := heap_alloc_new (w1.alloc (.cells #[.int .i64 16, .int .i64 A, .int .i64 N, .int .u16 0, .int .u16 0, .int .u16 0, .slice none 0 0, .slice (some ⟨w1.heap.size + 1, 0, none⟩) k k, .int .i64 0, .int .i64 0, .int .i64 0, .int .i64 0] 30)) (.cells (Array.replicate k (Value.int .u16 0)) 26)
    rw [hs1, hX] at h
    unfold WholeV; rw [List.map_replicate, List.toArray_replicate]; exact h
  have hrw := hl2.row
  rw [List.length_map, List.length_replicate] at hrw
  have HRow := Lib.hid hrw.ints
  clear hl2 hrw
  rw [hX]
  have H1 := Lib.hid h1
  have HBX := Lib.hid hbx
  have hlt1 : w1.heap.size < X.heap.size := h1.lt
  obtain ⟨hy0, hy1, hy2, hy3, hy4, hy5, hy6, hy7, hy8, hy9, hy10, hy11⟩ := cells12 h1
  clear hX hs1 h1a h1 hbx
  refine (pbytes_no 16 A N 0 0 0 0 k 0 0 0 0 none (some ⟨w1.heap.size + 1, 0, none⟩) 0 k _ HWd.out HRt.out).mono ?_
  rintro e w3 ⟨rfl, hb3'⟩
  have hb3 : Below X.heap.size X w3 := hb3'
  have h3 := H1.out.below hb3 H1.out.lt
  have HB3 := Lib.hid (HBX.out.trans (hb3.mono HBX.out.size))
  obtain ⟨hq0, hq1, hq2, hq3, hq4, hq5, hq6, hq7, hq8, hq9, hq10, hq11⟩ := cells12 h3
  clear hb3 hb3' h3
  go_wp2_with fail
  refine (pright_no 16 A N 0 0 0 0 k 0 0 0 0 none (some ⟨w1.heap.size + 1, 0, none⟩) 0 k _ HWd.out HRt.out).mono ?_
  rintro e w4 ⟨rfl, hb4⟩
  have HB4 := Lib.hid (HB3.out.trans (hb4.mono HB3.out.size))
  clear hb4
  go_wp2
  go_ret
  exact ⟨rfl, HB4.out⟩

set_option maxRecDepth 100000 in
set_option maxHeartbeats 2000000 in
theorem bounds_6_yes (a t n u M O z o N A : Int) (w : World) (a0 : -9223372036854775808 ≤ a) (a1 : a ≤ 9223372036854775807) (t0 : -9223372036854775808 ≤ t) (t1 : t ≤ 9223372036854775807) (n0 : -9223372036854775808 ≤ n) (n1 : n ≤ 9223372036854775807) (u0 : -9223372036854775808 ≤ u) (u1 : u ≤ 9223372036854775807) (hq : a % 8 = 6) (ho : u % 5 = o) (hM : kMostW 23 = M) (hO : kMostR 23 = O) (hz : n % M = z) (hA : t % 65536 = A) (hN : #[Value.int .i64 0, .int .i64 1, .int .i64 M, .int .i64 (M + 1), .int .i64 (1 + z)][o.toNat]? = some (.int .i64 N)) (N0 : 0 ≤ N) (N1 : N ≤ M + 1) (hfine : 1 ≤ N ∧ N ≤ M) :
    Calls Try.prog 6 #[.int .i64 a, .int .i64 t, .int .i64 n, .int .i64 u] w fun e w' => e = .returned (.bool true) ∧ Below w.heap.size w w' := by
  have m0 : 1 ≤ M := by rw [← hM]; decide
  have m1 : M ≤ 2000 := by rw [← hM]; decide
  have mo : 0 ≤ O := by rw [← hO]; decide
  have mo1 : O ≤ 2000 := by rw [← hO]; decide
  have z0 : 0 ≤ z := by rw [← hz]; exact Int.emod_nonneg _ (by omega)
  have z1 : z < M := by rw [← hz]; exact Int.emod_lt_of_pos _ (by omega)
  have o0 : 0 ≤ o := by omega
  have o1 : o < 5 := by omega
  have b0 : 0 ≤ A := by omega
  have b1 : A ≤ 65535 := by omega
  obtain ⟨k, hk⟩ : ∃ k : Nat, N = (k : Int) := ⟨N.toNat, by omega⟩
  have hrt : rightP 23 A N 0 0 0 0 k 0 1 0 0 := by
    refine ⟨rfl, ?_, by omega, by omega, ?_⟩
    · unfold plainP; omega
    · have x1 : kMostR 23 = 125 := rfl
      have x2 : kMostW 23 = 121 := rfl
      unfold fitsP; omega
  have hwd : Wide A N 0 0 0 0 1 0 0 := wide_of (by omega) (by omega) (by omega) (by omega) (by omega) (by omega) (by omega) (by omega) (by omega)
  have hmk : ∀ W : World, (Instr.makeSlice 28 (.int .i64 N) (.int .i64 N)).run Try.prog W = .ok (.slice (some ⟨W.heap.size, 0, none⟩) k k) (W.alloc (.cells (List.replicate k (Value.int .u16 0)).toArray 26)) := fun W => by
    rw [hk]; exact make_any (P := Try.prog) 28 26 (.int .u16 0) 2 Try.underlying28 infoW rfl k (by omega) (by omega) W
  have hix48 : ∀ W : World, (Instr.index 44 (.agg #[.int .i64 1, .int .i64 2, .int .i64 3, .int .i64 4, .int .i64 15, .int .i64 16, .int .i64 23, .int .i64 23]) (.int .i64 6)).run Try.prog W = .ok (.int .i64 23) W := fun W => run_index_ints _ 8 _ 6 _ W Try.underlying44 (by omega) (by omega) rfl
  have hix51 : ∀ W : World, (Instr.index 47 (.agg #[.int .i64 0, .int .i64 1, .int .i64 M, .int .i64 (M + 1), .int .i64 (1 + z)]) (.int .i64 o)).run Try.prog W = .ok (.int .i64 N) W := fun W => run_index_ints _ 5 _ o _ W Try.underlying47 o0 o1 hN
  have HQ := Lib.hid hq
  have HO := Lib.hid ho
  have HMR : Hid (kMostR 23 = O) := hO
  have HMW : Hid (kMostW 23 = M) := hM
  have HZ := Lib.hid hz
  have HA := Lib.hid hA
  have HK := Lib.hid hk
  have HRt := Lib.hid hrt
  have HWd := Lib.hid hwd
  clear hq ho hM hO hz hA hk hrt hwd hN
  have wz : IntKind.i64.wrap (1 + z) = 1 + z := IntWalk.i64_in _ (by omega)
  have wm : IntKind.i64.wrap (M + 1) = M + 1 := IntWalk.i64_in _ (by omega)
  have hmx : max M 0 = M := by omega
  obtain ⟨g0, g1⟩ := hfine
  go_enter Try.func6, Try.ntmps6
  go_wp2_with fail
  refine (awake_any _).mono ?_
  rintro e w1 ⟨rfl, hb1⟩
  have HB1 := Lib.hid hb1
  clear hb1
  go_wp2_with (first
    | (go_at_call 9; (with_reducible refine (within_lit a 8 6 _ HQ.out a0 a1 (by omega) (by omega)).mono ?_); rintro e w' ⟨rfl, rfl⟩)
    | (go_at_call 18; (with_reducible refine (most_lit 23 _ _ _ HMR.out HMW.out).mono ?_); rintro e w' ⟨rfl, rfl⟩)
    | (go_at_call 9; (with_reducible refine (within_lit n M z _ HZ.out n0 n1 (by omega) (by omega)).mono ?_); rintro e w' ⟨rfl, rfl⟩)
    | (go_at_call 9; (with_reducible refine (within_lit u 5 o _ HO.out u0 u1 (by omega) (by omega)).mono ?_); rintro e w' ⟨rfl, rfl⟩)
    | (go_at_call 9; (with_reducible refine (within_lit t 65536 A _ HA.out t0 t1 (by omega) (by omega)).mono ?_); rintro e w' ⟨rfl, rfl⟩))
  obtain ⟨X, hX⟩ : ∃ X, (w1.alloc (.cells #[.int .i64 23, .int .i64 A, .int .i64 N, .int .u16 0, .int .u16 0, .int .u16 0, .slice none 0 0, .slice (some ⟨w1.heap.size + 1, 0, none⟩) k k, .int .i64 0, .int .i64 1, .int .i64 0, .int .i64 0] 30)).alloc (.cells (Array.replicate k (Value.int .u16 0)) 26) = X := ⟨_, rfl⟩
  have hs1 : (w1.alloc (.cells #[.int .i64 23, .int .i64 A, .int .i64 N, .int .u16 0, .int .u16 0, .int .u16 0, .slice none 0 0, .slice (some ⟨w1.heap.size + 1, 0, none⟩) k k, .int .i64 0, .int .i64 1, .int .i64 0, .int .i64 0] 30)).heap.size = w1.heap.size + 1 := by simp
  have h1a : WholeV (w1.alloc (.cells #[.int .i64 23, .int .i64 A, .int .i64 N, .int .u16 0, .int .u16 0, .int .u16 0, .slice none 0 0, .slice (some ⟨w1.heap.size + 1, 0, none⟩) k k, .int .i64 0, .int .i64 1, .int .i64 0, .int .i64 0] 30)) w1.heap.size 30 [.int .i64 23, .int .i64 A, .int .i64 N, .int .u16 0, .int .u16 0, .int .u16 0, .slice none 0 0, .slice (some ⟨w1.heap.size + 1, 0, none⟩) k k, .int .i64 0, .int .i64 1, .int .i64 0, .int .i64 0] := heap_alloc_new w1 _
  have h1 : WholeV X w1.heap.size 30 [.int .i64 23, .int .i64 A, .int .i64 N, .int .u16 0, .int .u16 0, .int .u16 0, .slice none 0 0, .slice (some ⟨w1.heap.size + 1, 0, none⟩) k k, .int .i64 0, .int .i64 1, .int .i64 0, .int .i64 0] := by rw [← hX]; exact h1a.below ((Below.refl _ _).alloc (Nat.le_refl _) _) h1a.lt
  have hbx : Below w.heap.size w X := by rw [← hX]; exact (HB1.out.alloc HB1.out.size _).alloc (by have := HB1.out.size; simp; omega) _
  have hl2 : WholeV X (w1.heap.size + 1) 26 ((List.replicate k (0 : Int)).map (Value.int .u16)) := by
    have h := heap_alloc_new (w1.alloc (.cells #[.int .i64 23, .int .i64 A, .int .i64 N, .int .u16 0, .int .u16 0, .int .u16 0, .slice none 0 0, .slice (some ⟨w1.heap.size + 1, 0, none⟩) k k, .int .i64 0, .int .i64 1, .int .i64 0, .int .i64 0] 30)) (.cells (Array.replicate k (Value.int .u16 0)) 26)
    rw [hs1, hX] at h
    unfold WholeV; rw [List.map_replicate, List.toArray_replicate]; exact h
  have hrw := hl2.row
  rw [List.length_map, List.length_replicate] at hrw
  have HRow := Lib.hid hrw.ints
  clear hl2 hrw
  rw [hX]
  have H1 := Lib.hid h1
  have HBX := Lib.hid hbx
  have hlt1 : w1.heap.size < X.heap.size := h1.lt
  obtain ⟨hy0, hy1, hy2, hy3, hy4, hy5, hy6, hy7, hy8, hy9, hy10, hy11⟩ := cells12 h1
  clear hX hs1 h1a h1 hbx
  refine (pbytes_yes 23 A N 0 0 0 [] (List.replicate k 0) 0 1 0 0 none (some ⟨w1.heap.size + 1, 0, none⟩) 0 k 0 k _ HWd.out HRt.out BRow.nil HRow.out (fun x hx => by have := List.eq_of_mem_replicate hx; omega)).mono ?_
  rintro e w3 ⟨C, cap, rfl, ho, hb3'⟩
  have hb3 : Below X.heap.size X w3 := hb3'
  have hrl : rightP 23 A N 0 0 0 ([] : List Bool).length ((List.replicate k 0) : List Int).length 0 1 0 0 := (by have h := HRt.out; simpa using h)
  have HRl := Lib.hid hrl
  clear hrl
  have hcnt := enc_count 23 A N 0 0 0 [] (List.replicate k 0) 0 1 0 0 HRl.out 9 (by omega)
  have hbyt := enc_bytes A N 0 0 0 [] (List.replicate k 0) 0 1 0 0 23 HRl.out HWd.out (fun x hx => by have := List.eq_of_mem_replicate hx; omega)
  have hlen := enc_length A N 0 0 0 [] (List.replicate k 0) 0 1 0 0 23 HRl.out
  have hturn := parse_turned 23 A N 0 0 0 [] (List.replicate k 0) 0 1 0 0 HRl.out 9 (by omega)
  generalize hE : (enc 23 A N 0 0 0 [] (List.replicate k 0) 0 1 0 0) = E at *
  clear hE
  obtain ⟨L, hL⟩ : ∃ L, E.length = L := ⟨_, rfl⟩
  obtain ⟨y, hy⟩ : ∃ y, E.getD 9 0 = y := ⟨_, rfl⟩
  have y0 : 0 ≤ y := by rw [← hy]; exact hcnt.1
  have y1 : y ≤ 246 := by rw [← hy]; exact hcnt.2.1
  have l0 : 9 < L := by rw [← hL]; exact hcnt.2.2
  have l1 : L ≤ 252 := by rw [← hL]; exact hlen.2.1
  have wy : IntKind.u8.wrap (y + 1) = y + 1 := IntWalk.u8_in _ (by omega)
  have HTurn := Lib.hid (hturn L hL (y + 1) (by rw [hy]))
  have HByt := Lib.hid (hbyt.set 9 (y + 1) (by omega) (by omega))
  rw [hL] at ho ⊢
  have hcap := own_cap ho
  obtain ⟨g, cap', hv, hgb, _⟩ := row_of_own ho (by omega)
  injection hv with e1 e2 e3
  subst e1 e3
  have HO3 := Lib.hid ho
  have HLen := Lib.hid hL
  have HY := Lib.hid hy
  have li : (9 : Int) < (L : Int) := by omega
  clear hcnt hbyt hlen hturn hL hy ho
  have h3 := H1.out.below hb3 H1.out.lt
  have HB3 := Lib.hid (HBX.out.trans (hb3.mono HBX.out.size))
  obtain ⟨hq0, hq1, hq2, hq3, hq4, hq5, hq6, hq7, hq8, hq9, hq10, hq11⟩ := cells12 h3
  clear hb3 hb3' h3
  go_wp2_with fail
  refine (pright_yes 23 A N 0 0 0 0 k 0 1 0 0 none (some ⟨w1.heap.size + 1, 0, none⟩) 0 k _ HWd.out HRt.out).mono ?_
  rintro e w4 ⟨rfl, hb4⟩
  have HB4 := Lib.hid (HB3.out.trans (hb4.mono HB3.out.size))
  have hO4 := own_keep HO3.out hb4
  obtain ⟨g', cc', hv, _, hrow, hfr, hset⟩ := own_open hO4 (by omega)
  injection hv with e1 e2 e3
  injection e1 with e1
  injection e1 with e1
  subst e1 e3
  obtain ⟨_, hrc⟩ := hrow
  obtain ⟨b', off', e', _, hcell⟩ := hrc (by omega)
  injection e' with e'
  injection e' with e1 e2
  subst e1 e2
  have hcg := hcell 9 l0
  rw [Nat.zero_add, List.getElem?_map, List.getElem?_eq_getElem (by rw [HLen.out]; exact l0), Option.map_some] at hcg
  have hyE : E[9]'(by rw [HLen.out]; exact l0) = y := by rw [← HY.out]; simp [List.getD, show 9 < E.length by rw [HLen.out]; exact l0]
  rw [hyE] at hcg
  have hfg := hfr 9
  have HO5 := Lib.hid (hset 9 (.int .u8 (y + 1)))
  have hsz4 : w.heap.size ≤ g := Nat.le_trans (Nat.le_trans HB1.out.size (Nat.le_of_lt hlt1)) hgb
  clear hb4 hO4 hfr hset hcell hrc hyE
  go_wp2_with fail
  have hr5 : Row .u8 (w4.setCell ⟨g, 9, none⟩ (.int .u8 (y + 1))) (w4.setCell ⟨g, 9, none⟩ (.int .u8 (y + 1))).heap.size (some ⟨g, 0, none⟩) L (E.set 9 (y + 1)) := by
    have h := own_row HO5.out
    rw [← List.map_set] at h
    exact h.ints
  refine (parse_not (E.set 9 (y + 1)) L cap _ _ 23 3 HTurn.out hr5 HByt.out (by omega) hcap).mono ?_
  rintro e w6 ⟨BB, WB, bd, wd, rfl, hb6⟩
  have hb5 : Below w.heap.size w (w4.setCell ⟨g, 9, none⟩ (.int .u8 (y + 1))) := HB4.out.setCell (p := ⟨g, 9, none⟩) hsz4 _
  have HB6 := Lib.hid (hb5.trans (hb6.mono hb5.size))
  clear hr5 hb5 hb6
  go_wp2
  go_ret
  exact ⟨rfl, HB6.out.alloc HB6.out.size _⟩

set_option maxRecDepth 100000 in
set_option maxHeartbeats 2000000 in
theorem bounds_6_low (a t n u M O z o N A : Int) (w : World) (a0 : -9223372036854775808 ≤ a) (a1 : a ≤ 9223372036854775807) (t0 : -9223372036854775808 ≤ t) (t1 : t ≤ 9223372036854775807) (n0 : -9223372036854775808 ≤ n) (n1 : n ≤ 9223372036854775807) (u0 : -9223372036854775808 ≤ u) (u1 : u ≤ 9223372036854775807) (hq : a % 8 = 6) (ho : u % 5 = o) (hM : kMostW 23 = M) (hO : kMostR 23 = O) (hz : n % M = z) (hA : t % 65536 = A) (hN : #[Value.int .i64 0, .int .i64 1, .int .i64 M, .int .i64 (M + 1), .int .i64 (1 + z)][o.toNat]? = some (.int .i64 N)) (N0 : 0 ≤ N) (N1 : N ≤ M + 1) (hfine : N < 1) :
    Calls Try.prog 6 #[.int .i64 a, .int .i64 t, .int .i64 n, .int .i64 u] w fun e w' => e = .returned (.bool true) ∧ Below w.heap.size w w' := by
  have m0 : 1 ≤ M := by rw [← hM]; decide
  have m1 : M ≤ 2000 := by rw [← hM]; decide
  have mo : 0 ≤ O := by rw [← hO]; decide
  have mo1 : O ≤ 2000 := by rw [← hO]; decide
  have z0 : 0 ≤ z := by rw [← hz]; exact Int.emod_nonneg _ (by omega)
  have z1 : z < M := by rw [← hz]; exact Int.emod_lt_of_pos _ (by omega)
  have o0 : 0 ≤ o := by omega
  have o1 : o < 5 := by omega
  have b0 : 0 ≤ A := by omega
  have b1 : A ≤ 65535 := by omega
  obtain ⟨k, hk⟩ : ∃ k : Nat, N = (k : Int) := ⟨N.toNat, by omega⟩
  have hrt : ¬ rightP 23 A N 0 0 0 0 k 0 1 0 0 := by
    intro h
    have h5 := h.2.2.2.2
    unfold fitsP at h5
    omega
  have hwd : Wide A N 0 0 0 0 1 0 0 := wide_of (by omega) (by omega) (by omega) (by omega) (by omega) (by omega) (by omega) (by omega) (by omega)
  have hmk : ∀ W : World, (Instr.makeSlice 28 (.int .i64 N) (.int .i64 N)).run Try.prog W = .ok (.slice (some ⟨W.heap.size, 0, none⟩) k k) (W.alloc (.cells (List.replicate k (Value.int .u16 0)).toArray 26)) := fun W => by
    rw [hk]; exact make_any (P := Try.prog) 28 26 (.int .u16 0) 2 Try.underlying28 infoW rfl k (by omega) (by omega) W
  have hix48 : ∀ W : World, (Instr.index 44 (.agg #[.int .i64 1, .int .i64 2, .int .i64 3, .int .i64 4, .int .i64 15, .int .i64 16, .int .i64 23, .int .i64 23]) (.int .i64 6)).run Try.prog W = .ok (.int .i64 23) W := fun W => run_index_ints _ 8 _ 6 _ W Try.underlying44 (by omega) (by omega) rfl
  have hix51 : ∀ W : World, (Instr.index 47 (.agg #[.int .i64 0, .int .i64 1, .int .i64 M, .int .i64 (M + 1), .int .i64 (1 + z)]) (.int .i64 o)).run Try.prog W = .ok (.int .i64 N) W := fun W => run_index_ints _ 5 _ o _ W Try.underlying47 o0 o1 hN
  have HQ := Lib.hid hq
  have HO := Lib.hid ho
  have HMR : Hid (kMostR 23 = O) := hO
  have HMW : Hid (kMostW 23 = M) := hM
  have HZ := Lib.hid hz
  have HA := Lib.hid hA
  have HK := Lib.hid hk
  have HRt := Lib.hid hrt
  have HWd := Lib.hid hwd
  clear hq ho hM hO hz hA hk hrt hwd hN
  have wz : IntKind.i64.wrap (1 + z) = 1 + z := IntWalk.i64_in _ (by omega)
  have wm : IntKind.i64.wrap (M + 1) = M + 1 := IntWalk.i64_in _ (by omega)
  have hmx : max M 0 = M := by omega
  have hd : decide (1 ≤ N) = false := by simp; omega
  go_enter Try.func6, Try.ntmps6
  go_wp2_with fail
  refine (awake_any _).mono ?_
  rintro e w1 ⟨rfl, hb1⟩
  have HB1 := Lib.hid hb1
  clear hb1
  go_wp2_with (first
    | (go_at_call 9; (with_reducible refine (within_lit a 8 6 _ HQ.out a0 a1 (by omega) (by omega)).mono ?_); rintro e w' ⟨rfl, rfl⟩)
    | (go_at_call 18; (with_reducible refine (most_lit 23 _ _ _ HMR.out HMW.out).mono ?_); rintro e w' ⟨rfl, rfl⟩)
    | (go_at_call 9; (with_reducible refine (within_lit n M z _ HZ.out n0 n1 (by omega) (by omega)).mono ?_); rintro e w' ⟨rfl, rfl⟩)
    | (go_at_call 9; (with_reducible refine (within_lit u 5 o _ HO.out u0 u1 (by omega) (by omega)).mono ?_); rintro e w' ⟨rfl, rfl⟩)
    | (go_at_call 9; (with_reducible refine (within_lit t 65536 A _ HA.out t0 t1 (by omega) (by omega)).mono ?_); rintro e w' ⟨rfl, rfl⟩))
  obtain ⟨X, hX⟩ : ∃ X, (w1.alloc (.cells #[.int .i64 23, .int .i64 A, .int .i64 N, .int .u16 0, .int .u16 0, .int .u16 0, .slice none 0 0, .slice (some ⟨w1.heap.size + 1, 0, none⟩) k k, .int .i64 0, .int .i64 1, .int .i64 0, .int .i64 0] 30)).alloc (.cells (Array.replicate k (Value.int .u16 0)) 26) = X := ⟨_, rfl⟩
  have hs1 : (w1.alloc (.cells #[.int .i64 23, .int .i64 A, .int .i64 N, .int .u16 0, .int .u16 0, .int .u16 0, .slice none 0 0, .slice (some ⟨w1.heap.size + 1, 0, none⟩) k k, .int .i64 0, .int .i64 1, .int .i64 0, .int .i64 0] 30)).heap.size = w1.heap.size + 1 := by simp
  have h1a : WholeV (w1.alloc (.cells #[.int .i64 23, .int .i64 A, .int .i64 N, .int .u16 0, .int .u16 0, .int .u16 0, .slice none 0 0, .slice (some ⟨w1.heap.size + 1, 0, none⟩) k k, .int .i64 0, .int .i64 1, .int .i64 0, .int .i64 0] 30)) w1.heap.size 30 [.int .i64 23, .int .i64 A, .int .i64 N, .int .u16 0, .int .u16 0, .int .u16 0, .slice none 0 0, .slice (some ⟨w1.heap.size + 1, 0, none⟩) k k, .int .i64 0, .int .i64 1, .int .i64 0, .int .i64 0] := heap_alloc_new w1 _
  have h1 : WholeV X w1.heap.size 30 [.int .i64 23, .int .i64 A, .int .i64 N, .int .u16 0, .int .u16 0, .int .u16 0, .slice none 0 0, .slice (some ⟨w1.heap.size + 1, 0, none⟩) k k, .int .i64 0, .int .i64 1, .int .i64 0, .int .i64 0] := by rw [← hX]; exact h1a.below ((Below.refl _ _).alloc (Nat.le_refl _) _) h1a.lt
  have hbx : Below w.heap.size w X := by rw [← hX]; exact (HB1.out.alloc HB1.out.size _).alloc (by have := HB1.out.size; simp; omega) _
  have hl2 : WholeV X (w1.heap.size + 1) 26 ((List.replicate k (0 : Int)).map (Value.int .u16)) := by
    have h := heap_alloc_new (w1.alloc (.cells #[.int .i64 23, .int .i64 A, .int .i64 N, .int .u16 0, .int .u16 0, .int .u16 0, .slice none 0 0, .slice (some ⟨w1.heap.size + 1, 0, none⟩) k k, .int .i64 0, .int .i64 1, .int .i64 0, .int .i64 0] 30)) (.cells (Array.replicate k (Value.int .u16 0)) 26)
    rw [hs1, hX] at h
    unfold WholeV; rw [List.map_replicate, List.toArray_replicate]; exact h
  have hrw := hl2.row
  rw [List.length_map, List.length_replicate] at hrw
  have HRow := Lib.hid hrw.ints
  clear hl2 hrw
  rw [hX]
  have H1 := Lib.hid h1
  have HBX := Lib.hid hbx
  have hlt1 : w1.heap.size < X.heap.size := h1.lt
  obtain ⟨hy0, hy1, hy2, hy3, hy4, hy5, hy6, hy7, hy8, hy9, hy10, hy11⟩ := cells12 h1
  clear hX hs1 h1a h1 hbx
  refine (pbytes_no 23 A N 0 0 0 0 k 0 1 0 0 none (some ⟨w1.heap.size + 1, 0, none⟩) 0 k _ HWd.out HRt.out).mono ?_
  rintro e w3 ⟨rfl, hb3'⟩
  have hb3 : Below X.heap.size X w3 := hb3'
  have h3 := H1.out.below hb3 H1.out.lt
  have HB3 := Lib.hid (HBX.out.trans (hb3.mono HBX.out.size))
  obtain ⟨hq0, hq1, hq2, hq3, hq4, hq5, hq6, hq7, hq8, hq9, hq10, hq11⟩ := cells12 h3
  clear hb3 hb3' h3
  go_wp2_with fail
  refine (pright_no 23 A N 0 0 0 0 k 0 1 0 0 none (some ⟨w1.heap.size + 1, 0, none⟩) 0 k _ HWd.out HRt.out).mono ?_
  rintro e w4 ⟨rfl, hb4⟩
  have HB4 := Lib.hid (HB3.out.trans (hb4.mono HB3.out.size))
  clear hb4
  go_wp2
  go_ret
  exact ⟨rfl, HB4.out⟩

set_option maxRecDepth 100000 in
set_option maxHeartbeats 2000000 in
theorem bounds_6_high (a t n u M O z o N A : Int) (w : World) (a0 : -9223372036854775808 ≤ a) (a1 : a ≤ 9223372036854775807) (t0 : -9223372036854775808 ≤ t) (t1 : t ≤ 9223372036854775807) (n0 : -9223372036854775808 ≤ n) (n1 : n ≤ 9223372036854775807) (u0 : -9223372036854775808 ≤ u) (u1 : u ≤ 9223372036854775807) (hq : a % 8 = 6) (ho : u % 5 = o) (hM : kMostW 23 = M) (hO : kMostR 23 = O) (hz : n % M = z) (hA : t % 65536 = A) (hN : #[Value.int .i64 0, .int .i64 1, .int .i64 M, .int .i64 (M + 1), .int .i64 (1 + z)][o.toNat]? = some (.int .i64 N)) (N0 : 0 ≤ N) (N1 : N ≤ M + 1) (hfine : M < N) :
    Calls Try.prog 6 #[.int .i64 a, .int .i64 t, .int .i64 n, .int .i64 u] w fun e w' => e = .returned (.bool true) ∧ Below w.heap.size w w' := by
  have m0 : 1 ≤ M := by rw [← hM]; decide
  have m1 : M ≤ 2000 := by rw [← hM]; decide
  have mo : 0 ≤ O := by rw [← hO]; decide
  have mo1 : O ≤ 2000 := by rw [← hO]; decide
  have z0 : 0 ≤ z := by rw [← hz]; exact Int.emod_nonneg _ (by omega)
  have z1 : z < M := by rw [← hz]; exact Int.emod_lt_of_pos _ (by omega)
  have o0 : 0 ≤ o := by omega
  have o1 : o < 5 := by omega
  have b0 : 0 ≤ A := by omega
  have b1 : A ≤ 65535 := by omega
  obtain ⟨k, hk⟩ : ∃ k : Nat, N = (k : Int) := ⟨N.toNat, by omega⟩
  have hrt : ¬ rightP 23 A N 0 0 0 0 k 0 1 0 0 := by
    intro h
    have h5 := h.2.2.2.2
    unfold fitsP at h5
    omega
  have hwd : Wide A N 0 0 0 0 1 0 0 := wide_of (by omega) (by omega) (by omega) (by omega) (by omega) (by omega) (by omega) (by omega) (by omega)
  have hmk : ∀ W : World, (Instr.makeSlice 28 (.int .i64 N) (.int .i64 N)).run Try.prog W = .ok (.slice (some ⟨W.heap.size, 0, none⟩) k k) (W.alloc (.cells (List.replicate k (Value.int .u16 0)).toArray 26)) := fun W => by
    rw [hk]; exact make_any (P := Try.prog) 28 26 (.int .u16 0) 2 Try.underlying28 infoW rfl k (by omega) (by omega) W
  have hix48 : ∀ W : World, (Instr.index 44 (.agg #[.int .i64 1, .int .i64 2, .int .i64 3, .int .i64 4, .int .i64 15, .int .i64 16, .int .i64 23, .int .i64 23]) (.int .i64 6)).run Try.prog W = .ok (.int .i64 23) W := fun W => run_index_ints _ 8 _ 6 _ W Try.underlying44 (by omega) (by omega) rfl
  have hix51 : ∀ W : World, (Instr.index 47 (.agg #[.int .i64 0, .int .i64 1, .int .i64 M, .int .i64 (M + 1), .int .i64 (1 + z)]) (.int .i64 o)).run Try.prog W = .ok (.int .i64 N) W := fun W => run_index_ints _ 5 _ o _ W Try.underlying47 o0 o1 hN
  have HQ := Lib.hid hq
  have HO := Lib.hid ho
  have HMR : Hid (kMostR 23 = O) := hO
  have HMW : Hid (kMostW 23 = M) := hM
  have HZ := Lib.hid hz
  have HA := Lib.hid hA
  have HK := Lib.hid hk
  have HRt := Lib.hid hrt
  have HWd := Lib.hid hwd
  clear hq ho hM hO hz hA hk hrt hwd hN
  have wz : IntKind.i64.wrap (1 + z) = 1 + z := IntWalk.i64_in _ (by omega)
  have wm : IntKind.i64.wrap (M + 1) = M + 1 := IntWalk.i64_in _ (by omega)
  have hmx : max M 0 = M := by omega
  have g0 : 1 ≤ N := by omega
  have hd : decide (N ≤ M) = false := by simp; omega
  go_enter Try.func6, Try.ntmps6
  go_wp2_with fail
  refine (awake_any _).mono ?_
  rintro e w1 ⟨rfl, hb1⟩
  have HB1 := Lib.hid hb1
  clear hb1
  go_wp2_with (first
    | (go_at_call 9; (with_reducible refine (within_lit a 8 6 _ HQ.out a0 a1 (by omega) (by omega)).mono ?_); rintro e w' ⟨rfl, rfl⟩)
    | (go_at_call 18; (with_reducible refine (most_lit 23 _ _ _ HMR.out HMW.out).mono ?_); rintro e w' ⟨rfl, rfl⟩)
    | (go_at_call 9; (with_reducible refine (within_lit n M z _ HZ.out n0 n1 (by omega) (by omega)).mono ?_); rintro e w' ⟨rfl, rfl⟩)
    | (go_at_call 9; (with_reducible refine (within_lit u 5 o _ HO.out u0 u1 (by omega) (by omega)).mono ?_); rintro e w' ⟨rfl, rfl⟩)
    | (go_at_call 9; (with_reducible refine (within_lit t 65536 A _ HA.out t0 t1 (by omega) (by omega)).mono ?_); rintro e w' ⟨rfl, rfl⟩))
  obtain ⟨X, hX⟩ : ∃ X, (w1.alloc (.cells #[.int .i64 23, .int .i64 A, .int .i64 N, .int .u16 0, .int .u16 0, .int .u16 0, .slice none 0 0, .slice (some ⟨w1.heap.size + 1, 0, none⟩) k k, .int .i64 0, .int .i64 1, .int .i64 0, .int .i64 0] 30)).alloc (.cells (Array.replicate k (Value.int .u16 0)) 26) = X := ⟨_, rfl⟩
  have hs1 : (w1.alloc (.cells #[.int .i64 23, .int .i64 A, .int .i64 N, .int .u16 0, .int .u16 0, .int .u16 0, .slice none 0 0, .slice (some ⟨w1.heap.size + 1, 0, none⟩) k k, .int .i64 0, .int .i64 1, .int .i64 0, .int .i64 0] 30)).heap.size = w1.heap.size + 1 := by simp
  have h1a : WholeV (w1.alloc (.cells #[.int .i64 23, .int .i64 A, .int .i64 N, .int .u16 0, .int .u16 0, .int .u16 0, .slice none 0 0, .slice (some ⟨w1.heap.size + 1, 0, none⟩) k k, .int .i64 0, .int .i64 1, .int .i64 0, .int .i64 0] 30)) w1.heap.size 30 [.int .i64 23, .int .i64 A, .int .i64 N, .int .u16 0, .int .u16 0, .int .u16 0, .slice none 0 0, .slice (some ⟨w1.heap.size + 1, 0, none⟩) k k, .int .i64 0, .int .i64 1, .int .i64 0, .int .i64 0] := heap_alloc_new w1 _
  have h1 : WholeV X w1.heap.size 30 [.int .i64 23, .int .i64 A, .int .i64 N, .int .u16 0, .int .u16 0, .int .u16 0, .slice none 0 0, .slice (some ⟨w1.heap.size + 1, 0, none⟩) k k, .int .i64 0, .int .i64 1, .int .i64 0, .int .i64 0] := by rw [← hX]; exact h1a.below ((Below.refl _ _).alloc (Nat.le_refl _) _) h1a.lt
  have hbx : Below w.heap.size w X := by rw [← hX]; exact (HB1.out.alloc HB1.out.size _).alloc (by have := HB1.out.size; simp; omega) _
  have hl2 : WholeV X (w1.heap.size + 1) 26 ((List.replicate k (0 : Int)).map (Value.int .u16)) := by
    have h := heap_alloc_new (w1.alloc (.cells #[.int .i64 23, .int .i64 A, .int .i64 N, .int .u16 0, .int .u16 0, .int .u16 0, .slice none 0 0, .slice (some ⟨w1.heap.size + 1, 0, none⟩) k k, .int .i64 0, .int .i64 1, .int .i64 0, .int .i64 0] 30)) (.cells (Array.replicate k (Value.int .u16 0)) 26)
    rw [hs1, hX] at h
    unfold WholeV; rw [List.map_replicate, List.toArray_replicate]; exact h
  have hrw := hl2.row
  rw [List.length_map, List.length_replicate] at hrw
  have HRow := Lib.hid hrw.ints
  clear hl2 hrw
  rw [hX]
  have H1 := Lib.hid h1
  have HBX := Lib.hid hbx
  have hlt1 : w1.heap.size < X.heap.size := h1.lt
  obtain ⟨hy0, hy1, hy2, hy3, hy4, hy5, hy6, hy7, hy8, hy9, hy10, hy11⟩ := cells12 h1
  clear hX hs1 h1a h1 hbx
  refine (pbytes_no 23 A N 0 0 0 0 k 0 1 0 0 none (some ⟨w1.heap.size + 1, 0, none⟩) 0 k _ HWd.out HRt.out).mono ?_
  rintro e w3 ⟨rfl, hb3'⟩
  have hb3 : Below X.heap.size X w3 := hb3'
  have h3 := H1.out.below hb3 H1.out.lt
  have HB3 := Lib.hid (HBX.out.trans (hb3.mono HBX.out.size))
  obtain ⟨hq0, hq1, hq2, hq3, hq4, hq5, hq6, hq7, hq8, hq9, hq10, hq11⟩ := cells12 h3
  clear hb3 hb3' h3
  go_wp2_with fail
  refine (pright_no 23 A N 0 0 0 0 k 0 1 0 0 none (some ⟨w1.heap.size + 1, 0, none⟩) 0 k _ HWd.out HRt.out).mono ?_
  rintro e w4 ⟨rfl, hb4⟩
  have HB4 := Lib.hid (HB3.out.trans (hb4.mono HB3.out.size))
  clear hb4
  go_wp2
  go_ret
  exact ⟨rfl, HB4.out⟩

set_option maxRecDepth 100000 in
set_option maxHeartbeats 2000000 in
theorem bounds_7_yes (a t n u M O z o N A : Int) (w : World) (a0 : -9223372036854775808 ≤ a) (a1 : a ≤ 9223372036854775807) (t0 : -9223372036854775808 ≤ t) (t1 : t ≤ 9223372036854775807) (n0 : -9223372036854775808 ≤ n) (n1 : n ≤ 9223372036854775807) (u0 : -9223372036854775808 ≤ u) (u1 : u ≤ 9223372036854775807) (hq : a % 8 = 7) (ho : u % 5 = o) (hM : kMostR 23 = M) (hO : kMostW 23 = O) (hz : n % M = z) (hA : t % 65536 = A) (hN : #[Value.int .i64 0, .int .i64 1, .int .i64 M, .int .i64 (M + 1), .int .i64 (1 + z)][o.toNat]? = some (.int .i64 N)) (N0 : 0 ≤ N) (N1 : N ≤ M + 1) (hfine : 1 ≤ N ∧ N ≤ M) :
    Calls Try.prog 6 #[.int .i64 a, .int .i64 t, .int .i64 n, .int .i64 u] w fun e w' => e = .returned (.bool true) ∧ Below w.heap.size w w' := by
  have m0 : 1 ≤ M := by rw [← hM]; decide
  have m1 : M ≤ 2000 := by rw [← hM]; decide
  have mo : 0 ≤ O := by rw [← hO]; decide
  have mo1 : O ≤ 2000 := by rw [← hO]; decide
  have z0 : 0 ≤ z := by rw [← hz]; exact Int.emod_nonneg _ (by omega)
  have z1 : z < M := by rw [← hz]; exact Int.emod_lt_of_pos _ (by omega)
  have o0 : 0 ≤ o := by omega
  have o1 : o < 5 := by omega
  have b0 : 0 ≤ A := by omega
  have b1 : A ≤ 65535 := by omega
  obtain ⟨k, hk⟩ : ∃ k : Nat, N = (k : Int) := ⟨N.toNat, by omega⟩
  have hrt : rightP 23 A 1 0 0 0 0 1 0 N 0 0 := by
    refine ⟨rfl, ?_, by omega, by omega, ?_⟩
    · unfold plainP; omega
    · have x1 : kMostR 23 = 125 := rfl
      have x2 : kMostW 23 = 121 := rfl
      unfold fitsP; omega
  have hwd : Wide A 1 0 0 0 0 N 0 0 := wide_of (by omega) (by omega) (by omega) (by omega) (by omega) (by omega) (by omega) (by omega) (by omega)
  have hmk : ∀ W : World, (Instr.makeSlice 28 (.int .i64 1) (.int .i64 1)).run Try.prog W = .ok (.slice (some ⟨W.heap.size, 0, none⟩) 1 1) (W.alloc (.cells #[.int .u16 0] 26)) := fun W => make_any (P := Try.prog) 28 26 (.int .u16 0) 2 Try.underlying28 infoW rfl 1 (by omega) (by omega) W
  have hix48 : ∀ W : World, (Instr.index 44 (.agg #[.int .i64 1, .int .i64 2, .int .i64 3, .int .i64 4, .int .i64 15, .int .i64 16, .int .i64 23, .int .i64 23]) (.int .i64 7)).run Try.prog W = .ok (.int .i64 23) W := fun W => run_index_ints _ 8 _ 7 _ W Try.underlying44 (by omega) (by omega) rfl
  have hix51 : ∀ W : World, (Instr.index 47 (.agg #[.int .i64 0, .int .i64 1, .int .i64 M, .int .i64 (M + 1), .int .i64 (1 + z)]) (.int .i64 o)).run Try.prog W = .ok (.int .i64 N) W := fun W => run_index_ints _ 5 _ o _ W Try.underlying47 o0 o1 hN
  have HQ := Lib.hid hq
  have HO := Lib.hid ho
  have HMR : Hid (kMostR 23 = M) := hM
  have HMW : Hid (kMostW 23 = O) := hO
  have HZ := Lib.hid hz
  have HA := Lib.hid hA
  have HK := Lib.hid hk
  have HRt := Lib.hid hrt
  have HWd := Lib.hid hwd
  clear hq ho hM hO hz hA hk hrt hwd hN
  have wz : IntKind.i64.wrap (1 + z) = 1 + z := IntWalk.i64_in _ (by omega)
  have wm : IntKind.i64.wrap (M + 1) = M + 1 := IntWalk.i64_in _ (by omega)
  have hmx : max O 0 = O := by omega
  obtain ⟨g0, g1⟩ := hfine
  go_enter Try.func6, Try.ntmps6
  go_wp2_with fail
  refine (awake_any _).mono ?_
  rintro e w1 ⟨rfl, hb1⟩
  have HB1 := Lib.hid hb1
  clear hb1
  go_wp2_with (first
    | (go_at_call 9; (with_reducible refine (within_lit a 8 7 _ HQ.out a0 a1 (by omega) (by omega)).mono ?_); rintro e w' ⟨rfl, rfl⟩)
    | (go_at_call 18; (with_reducible refine (most_lit 23 _ _ _ HMR.out HMW.out).mono ?_); rintro e w' ⟨rfl, rfl⟩)
    | (go_at_call 9; (with_reducible refine (within_lit n M z _ HZ.out n0 n1 (by omega) (by omega)).mono ?_); rintro e w' ⟨rfl, rfl⟩)
    | (go_at_call 9; (with_reducible refine (within_lit u 5 o _ HO.out u0 u1 (by omega) (by omega)).mono ?_); rintro e w' ⟨rfl, rfl⟩)
    | (go_at_call 9; (with_reducible refine (within_lit t 65536 A _ HA.out t0 t1 (by omega) (by omega)).mono ?_); rintro e w' ⟨rfl, rfl⟩))
  go_region
  all_goals
    obtain ⟨X, hX⟩ : ∃ X, (w1.alloc (.cells #[.int .i64 23, .int .i64 A, .int .i64 1, .int .u16 0, .int .u16 0, .int .u16 0, .slice none 0 0, .slice (some ⟨w1.heap.size + 1, 0, none⟩) 1 1, .int .i64 0, .int .i64 N, .int .i64 0, .int .i64 0] 30)).alloc (.cells #[.int .u16 0] 26) = X := ⟨_, rfl⟩
    have hs1 : (w1.alloc (.cells #[.int .i64 23, .int .i64 A, .int .i64 1, .int .u16 0, .int .u16 0, .int .u16 0, .slice none 0 0, .slice (some ⟨w1.heap.size + 1, 0, none⟩) 1 1, .int .i64 0, .int .i64 N, .int .i64 0, .int .i64 0] 30)).heap.size = w1.heap.size + 1 := by simp
    have h1a : WholeV (w1.alloc (.cells #[.int .i64 23, .int .i64 A, .int .i64 1, .int .u16 0, .int .u16 0, .int .u16 0, .slice none 0 0, .slice (some ⟨w1.heap.size + 1, 0, none⟩) 1 1, .int .i64 0, .int .i64 N, .int .i64 0, .int .i64 0] 30)) w1.heap.size 30 [.int .i64 23, .int .i64 A, .int .i64 1, .int .u16 0, .int .u16 0, .int .u16 0, .slice none 0 0, .slice (some ⟨w1.heap.size + 1, 0, none⟩) 1 1, .int .i64 0, .int .i64 N, .int .i64 0, .int .i64 0] := heap_alloc_new w1 _
    have h1 : WholeV X w1.heap.size 30 [.int .i64 23, .int .i64 A, .int .i64 1, .int .u16 0, .int .u16 0, .int .u16 0, .slice none 0 0, .slice (some ⟨w1.heap.size + 1, 0, none⟩) 1 1, .int .i64 0, .int .i64 N, .int .i64 0, .int .i64 0] := by rw [← hX]; exact h1a.below ((Below.refl _ _).alloc (Nat.le_refl _) _) h1a.lt
    have hbx : Below w.heap.size w X := by rw [← hX]; exact (HB1.out.alloc HB1.out.size _).alloc (by have := HB1.out.size; simp; omega) _
    have hl2 : WholeV X (w1.heap.size + 1) 26 (([0] : List Int).map (Value.int .u16)) := by
      have h := heap_alloc_new (w1.alloc (.cells #[.int .i64 23, .int .i64 A, .int .i64 1, .int .u16 0, .int .u16 0, .int .u16 0, .slice none 0 0, .slice (some ⟨w1.heap.size + 1, 0, none⟩) 1 1, .int .i64 0, .int .i64 N, .int .i64 0, .int .i64 0] 30)) (.cells #[.int .u16 0] 26)
      rw [hs1, hX] at h
      exact h
    have hrw := hl2.row
    rw [List.length_map] at hrw
    have HRow := Lib.hid hrw.ints
    clear hl2 hrw
    rw [hX]
    have H1 := Lib.hid h1
    have HBX := Lib.hid hbx
    have hlt1 : w1.heap.size < X.heap.size := h1.lt
    obtain ⟨hy0, hy1, hy2, hy3, hy4, hy5, hy6, hy7, hy8, hy9, hy10, hy11⟩ := cells12 h1
    clear hX hs1 h1a h1 hbx
    go_wp2_with fail
    refine (pbytes_yes 23 A 1 0 0 0 [] [0] 0 N 0 0 none (some ⟨w1.heap.size + 1, 0, none⟩) 0 1 0 1 _ HWd.out HRt.out BRow.nil (HRow.out.drewN 1) (fun x hx => by simp at hx; omega)).mono ?_
    rintro e w3 ⟨C, cap, rfl, ho, hb3'⟩
    have hb3 : Below X.heap.size X w3 := below_from (d := 1) hb3'
    have hrl : rightP 23 A 1 0 0 0 ([] : List Bool).length ([0] : List Int).length 0 N 0 0 := HRt.out
    have HRl := Lib.hid hrl
    clear hrl
    have hcnt := enc_count 23 A 1 0 0 0 [] [0] 0 N 0 0 HRl.out 9 (by omega)
    have hbyt := enc_bytes A 1 0 0 0 [] [0] 0 N 0 0 23 HRl.out HWd.out (fun x hx => by simp at hx; omega)
    have hlen := enc_length A 1 0 0 0 [] [0] 0 N 0 0 23 HRl.out
    have hturn := parse_turned 23 A 1 0 0 0 [] [0] 0 N 0 0 HRl.out 9 (by omega)
    generalize hE : (enc 23 A 1 0 0 0 [] [0] 0 N 0 0) = E at *
    clear hE
    obtain ⟨L, hL⟩ : ∃ L, E.length = L := ⟨_, rfl⟩
    obtain ⟨y, hy⟩ : ∃ y, E.getD 9 0 = y := ⟨_, rfl⟩
    have y0 : 0 ≤ y := by rw [← hy]; exact hcnt.1
    have y1 : y ≤ 246 := by rw [← hy]; exact hcnt.2.1
    have l0 : 9 < L := by rw [← hL]; exact hcnt.2.2
    have l1 : L ≤ 252 := by rw [← hL]; exact hlen.2.1
    have wy : IntKind.u8.wrap (y + 1) = y + 1 := IntWalk.u8_in _ (by omega)
    have HTurn := Lib.hid (hturn L hL (y + 1) (by rw [hy]))
    have HByt := Lib.hid (hbyt.set 9 (y + 1) (by omega) (by omega))
    rw [hL] at ho ⊢
    have hcap := own_cap ho
    obtain ⟨g, cap', hv, hgb, _⟩ := row_of_own ho (by omega)
    injection hv with e1 e2 e3
    subst e1 e3
    have HO3 := Lib.hid ho
    have HLen := Lib.hid hL
    have HY := Lib.hid hy
    have li : (9 : Int) < (L : Int) := by omega
    clear hcnt hbyt hlen hturn hL hy ho
    have h3 := H1.out.below hb3 H1.out.lt
    have HB3 := Lib.hid (HBX.out.trans (hb3.mono HBX.out.size))
    obtain ⟨hq0, hq1, hq2, hq3, hq4, hq5, hq6, hq7, hq8, hq9, hq10, hq11⟩ := cells12 h3
    clear hb3 hb3' h3
    go_wp2_with fail
    refine (pright_yes 23 A 1 0 0 0 0 1 0 N 0 0 none (some ⟨w1.heap.size + 1, 0, none⟩) 0 1 _ HWd.out HRt.out).mono ?_
    rintro e w4 ⟨rfl, hb4⟩
    have HB4 := Lib.hid (HB3.out.trans (hb4.mono HB3.out.size))
    have hO4 := own_keep HO3.out hb4
    obtain ⟨g', cc', hv, _, hrow, hfr, hset⟩ := own_open hO4 (by omega)
    injection hv with e1 e2 e3
    injection e1 with e1
    injection e1 with e1
    subst e1 e3
    obtain ⟨_, hrc⟩ := hrow
    obtain ⟨b', off', e', _, hcell⟩ := hrc (by omega)
    injection e' with e'
    injection e' with e1 e2
    subst e1 e2
    have hcg := hcell 9 l0
    rw [Nat.zero_add, List.getElem?_map, List.getElem?_eq_getElem (by rw [HLen.out]; exact l0), Option.map_some] at hcg
    have hyE : E[9]'(by rw [HLen.out]; exact l0) = y := by rw [← HY.out]; simp [List.getD, show 9 < E.length by rw [HLen.out]; exact l0]
    rw [hyE] at hcg
    have hfg := hfr 9
    have HO5 := Lib.hid (hset 9 (.int .u8 (y + 1)))
    have hsz4 : w.heap.size ≤ g := Nat.le_trans (Nat.le_trans HB1.out.size (Nat.le_of_lt hlt1)) hgb
    clear hb4 hO4 hfr hset hcell hrc hyE
    go_wp2_with fail
    have hr5 : Row .u8 (w4.setCell ⟨g, 9, none⟩ (.int .u8 (y + 1))) (w4.setCell ⟨g, 9, none⟩ (.int .u8 (y + 1))).heap.size (some ⟨g, 0, none⟩) L (E.set 9 (y + 1)) := by
      have h := own_row HO5.out
      rw [← List.map_set] at h
      exact h.ints
    refine (parse_not (E.set 9 (y + 1)) L cap _ _ 23 3 HTurn.out hr5 HByt.out (by omega) hcap).mono ?_
    rintro e w6 ⟨BB, WB, bd, wd, rfl, hb6⟩
    have hb5 : Below w.heap.size w (w4.setCell ⟨g, 9, none⟩ (.int .u8 (y + 1))) := HB4.out.setCell (p := ⟨g, 9, none⟩) hsz4 _
    have HB6 := Lib.hid (hb5.trans (hb6.mono hb5.size))
    clear hr5 hb5 hb6
    go_wp2
    go_ret
    exact ⟨rfl, HB6.out.alloc HB6.out.size _⟩

set_option maxRecDepth 100000 in
set_option maxHeartbeats 2000000 in
theorem bounds_7_low (a t n u M O z o N A : Int) (w : World) (a0 : -9223372036854775808 ≤ a) (a1 : a ≤ 9223372036854775807) (t0 : -9223372036854775808 ≤ t) (t1 : t ≤ 9223372036854775807) (n0 : -9223372036854775808 ≤ n) (n1 : n ≤ 9223372036854775807) (u0 : -9223372036854775808 ≤ u) (u1 : u ≤ 9223372036854775807) (hq : a % 8 = 7) (ho : u % 5 = o) (hM : kMostR 23 = M) (hO : kMostW 23 = O) (hz : n % M = z) (hA : t % 65536 = A) (hN : #[Value.int .i64 0, .int .i64 1, .int .i64 M, .int .i64 (M + 1), .int .i64 (1 + z)][o.toNat]? = some (.int .i64 N)) (N0 : 0 ≤ N) (N1 : N ≤ M + 1) (hfine : N < 1) :
    Calls Try.prog 6 #[.int .i64 a, .int .i64 t, .int .i64 n, .int .i64 u] w fun e w' => e = .returned (.bool true) ∧ Below w.heap.size w w' := by
  have m0 : 1 ≤ M := by rw [← hM]; decide
  have m1 : M ≤ 2000 := by rw [← hM]; decide
  have mo : 0 ≤ O := by rw [← hO]; decide
  have mo1 : O ≤ 2000 := by rw [← hO]; decide
  have z0 : 0 ≤ z := by rw [← hz]; exact Int.emod_nonneg _ (by omega)
  have z1 : z < M := by rw [← hz]; exact Int.emod_lt_of_pos _ (by omega)
  have o0 : 0 ≤ o := by omega
  have o1 : o < 5 := by omega
  have b0 : 0 ≤ A := by omega
  have b1 : A ≤ 65535 := by omega
  obtain ⟨k, hk⟩ : ∃ k : Nat, N = (k : Int) := ⟨N.toNat, by omega⟩
  have hrt : ¬ rightP 23 A 1 0 0 0 0 1 0 N 0 0 := by
    intro h
    have h5 := h.2.2.2.2
    unfold fitsP at h5
    omega
  have hwd : Wide A 1 0 0 0 0 N 0 0 := wide_of (by omega) (by omega) (by omega) (by omega) (by omega) (by omega) (by omega) (by omega) (by omega)
  have hmk : ∀ W : World, (Instr.makeSlice 28 (.int .i64 1) (.int .i64 1)).run Try.prog W = .ok (.slice (some ⟨W.heap.size, 0, none⟩) 1 1) (W.alloc (.cells #[.int .u16 0] 26)) := fun W => make_any (P := Try.prog) 28 26 (.int .u16 0) 2 Try.underlying28 infoW rfl 1 (by omega) (by omega) W
  have hix48 : ∀ W : World, (Instr.index 44 (.agg #[.int .i64 1, .int .i64 2, .int .i64 3, .int .i64 4, .int .i64 15, .int .i64 16, .int .i64 23, .int .i64 23]) (.int .i64 7)).run Try.prog W = .ok (.int .i64 23) W := fun W => run_index_ints _ 8 _ 7 _ W Try.underlying44 (by omega) (by omega) rfl
  have hix51 : ∀ W : World, (Instr.index 47 (.agg #[.int .i64 0, .int .i64 1, .int .i64 M, .int .i64 (M + 1), .int .i64 (1 + z)]) (.int .i64 o)).run Try.prog W = .ok (.int .i64 N) W := fun W => run_index_ints _ 5 _ o _ W Try.underlying47 o0 o1 hN
  have HQ := Lib.hid hq
  have HO := Lib.hid ho
  have HMR : Hid (kMostR 23 = M) := hM
  have HMW : Hid (kMostW 23 = O) := hO
  have HZ := Lib.hid hz
  have HA := Lib.hid hA
  have HK := Lib.hid hk
  have HRt := Lib.hid hrt
  have HWd := Lib.hid hwd
  clear hq ho hM hO hz hA hk hrt hwd hN
  have wz : IntKind.i64.wrap (1 + z) = 1 + z := IntWalk.i64_in _ (by omega)
  have wm : IntKind.i64.wrap (M + 1) = M + 1 := IntWalk.i64_in _ (by omega)
  have hmx : max O 0 = O := by omega
  have hd : decide (1 ≤ N) = false := by simp; omega
  go_enter Try.func6, Try.ntmps6
  go_wp2_with fail
  refine (awake_any _).mono ?_
  rintro e w1 ⟨rfl, hb1⟩
  have HB1 := Lib.hid hb1
  clear hb1
  go_wp2_with (first
    | (go_at_call 9; (with_reducible refine (within_lit a 8 7 _ HQ.out a0 a1 (by omega) (by omega)).mono ?_); rintro e w' ⟨rfl, rfl⟩)
    | (go_at_call 18; (with_reducible refine (most_lit 23 _ _ _ HMR.out HMW.out).mono ?_); rintro e w' ⟨rfl, rfl⟩)
    | (go_at_call 9; (with_reducible refine (within_lit n M z _ HZ.out n0 n1 (by omega) (by omega)).mono ?_); rintro e w' ⟨rfl, rfl⟩)
    | (go_at_call 9; (with_reducible refine (within_lit u 5 o _ HO.out u0 u1 (by omega) (by omega)).mono ?_); rintro e w' ⟨rfl, rfl⟩)
    | (go_at_call 9; (with_reducible refine (within_lit t 65536 A _ HA.out t0 t1 (by omega) (by omega)).mono ?_); rintro e w' ⟨rfl, rfl⟩))
  go_region
  all_goals
    obtain ⟨X, hX⟩ : ∃ X, (w1.alloc (.cells #[.int .i64 23, .int .i64 A, .int .i64 1, .int .u16 0, .int .u16 0, .int .u16 0, .slice none 0 0, .slice (some ⟨w1.heap.size + 1, 0, none⟩) 1 1, .int .i64 0, .int .i64 N, .int .i64 0, .int .i64 0] 30)).alloc (.cells #[.int .u16 0] 26) = X := ⟨_, rfl⟩
    have hs1 : (w1.alloc (.cells #[.int .i64 23, .int .i64 A, .int .i64 1, .int .u16 0, .int .u16 0, .int .u16 0, .slice none 0 0, .slice (some ⟨w1.heap.size + 1, 0, none⟩) 1 1, .int .i64 0, .int .i64 N, .int .i64 0, .int .i64 0] 30)).heap.size = w1.heap.size + 1 := by simp
    have h1a : WholeV (w1.alloc (.cells #[.int .i64 23, .int .i64 A, .int .i64 1, .int .u16 0, .int .u16 0, .int .u16 0, .slice none 0 0, .slice (some ⟨w1.heap.size + 1, 0, none⟩) 1 1, .int .i64 0, .int .i64 N, .int .i64 0, .int .i64 0] 30)) w1.heap.size 30 [.int .i64 23, .int .i64 A, .int .i64 1, .int .u16 0, .int .u16 0, .int .u16 0, .slice none 0 0, .slice (some ⟨w1.heap.size + 1, 0, none⟩) 1 1, .int .i64 0, .int .i64 N, .int .i64 0, .int .i64 0] := heap_alloc_new w1 _
    have h1 : WholeV X w1.heap.size 30 [.int .i64 23, .int .i64 A, .int .i64 1, .int .u16 0, .int .u16 0, .int .u16 0, .slice none 0 0, .slice (some ⟨w1.heap.size + 1, 0, none⟩) 1 1, .int .i64 0, .int .i64 N, .int .i64 0, .int .i64 0] := by rw [← hX]; exact h1a.below ((Below.refl _ _).alloc (Nat.le_refl _) _) h1a.lt
    have hbx : Below w.heap.size w X := by rw [← hX]; exact (HB1.out.alloc HB1.out.size _).alloc (by have := HB1.out.size; simp; omega) _
    have hl2 : WholeV X (w1.heap.size + 1) 26 (([0] : List Int).map (Value.int .u16)) := by
      have h := heap_alloc_new (w1.alloc (.cells #[.int .i64 23, .int .i64 A, .int .i64 1, .int .u16 0, .int .u16 0, .int .u16 0, .slice none 0 0, .slice (some ⟨w1.heap.size + 1, 0, none⟩) 1 1, .int .i64 0, .int .i64 N, .int .i64 0, .int .i64 0] 30)) (.cells #[.int .u16 0] 26)
      rw [hs1, hX] at h
      exact h
    have hrw := hl2.row
    rw [List.length_map] at hrw
    have HRow := Lib.hid hrw.ints
    clear hl2 hrw
    rw [hX]
    have H1 := Lib.hid h1
    have HBX := Lib.hid hbx
    have hlt1 : w1.heap.size < X.heap.size := h1.lt
    obtain ⟨hy0, hy1, hy2, hy3, hy4, hy5, hy6, hy7, hy8, hy9, hy10, hy11⟩ := cells12 h1
    clear hX hs1 h1a h1 hbx
    go_wp2_with fail
    refine (pbytes_no 23 A 1 0 0 0 0 1 0 N 0 0 none (some ⟨w1.heap.size + 1, 0, none⟩) 0 1 _ HWd.out HRt.out).mono ?_
    rintro e w3 ⟨rfl, hb3'⟩
    have hb3 : Below X.heap.size X w3 := below_from (d := 1) hb3'
    have h3 := H1.out.below hb3 H1.out.lt
    have HB3 := Lib.hid (HBX.out.trans (hb3.mono HBX.out.size))
    obtain ⟨hq0, hq1, hq2, hq3, hq4, hq5, hq6, hq7, hq8, hq9, hq10, hq11⟩ := cells12 h3
    clear hb3 hb3' h3
    go_wp2_with fail
    refine (pright_no 23 A 1 0 0 0 0 1 0 N 0 0 none (some ⟨w1.heap.size + 1, 0, none⟩) 0 1 _ HWd.out HRt.out).mono ?_
    rintro e w4 ⟨rfl, hb4⟩
    have HB4 := Lib.hid (HB3.out.trans (hb4.mono HB3.out.size))
    clear hb4
    go_wp2
    go_ret
    exact ⟨rfl, HB4.out⟩

set_option maxRecDepth 100000 in
set_option maxHeartbeats 2000000 in
theorem bounds_7_high (a t n u M O z o N A : Int) (w : World) (a0 : -9223372036854775808 ≤ a) (a1 : a ≤ 9223372036854775807) (t0 : -9223372036854775808 ≤ t) (t1 : t ≤ 9223372036854775807) (n0 : -9223372036854775808 ≤ n) (n1 : n ≤ 9223372036854775807) (u0 : -9223372036854775808 ≤ u) (u1 : u ≤ 9223372036854775807) (hq : a % 8 = 7) (ho : u % 5 = o) (hM : kMostR 23 = M) (hO : kMostW 23 = O) (hz : n % M = z) (hA : t % 65536 = A) (hN : #[Value.int .i64 0, .int .i64 1, .int .i64 M, .int .i64 (M + 1), .int .i64 (1 + z)][o.toNat]? = some (.int .i64 N)) (N0 : 0 ≤ N) (N1 : N ≤ M + 1) (hfine : M < N) :
    Calls Try.prog 6 #[.int .i64 a, .int .i64 t, .int .i64 n, .int .i64 u] w fun e w' => e = .returned (.bool true) ∧ Below w.heap.size w w' := by
  have m0 : 1 ≤ M := by rw [← hM]; decide
  have m1 : M ≤ 2000 := by rw [← hM]; decide
  have mo : 0 ≤ O := by rw [← hO]; decide
  have mo1 : O ≤ 2000 := by rw [← hO]; decide
  have z0 : 0 ≤ z := by rw [← hz]; exact Int.emod_nonneg _ (by omega)
  have z1 : z < M := by rw [← hz]; exact Int.emod_lt_of_pos _ (by omega)
  have o0 : 0 ≤ o := by omega
  have o1 : o < 5 := by omega
  have b0 : 0 ≤ A := by omega
  have b1 : A ≤ 65535 := by omega
  obtain ⟨k, hk⟩ : ∃ k : Nat, N = (k : Int) := ⟨N.toNat, by omega⟩
  have hrt : ¬ rightP 23 A 1 0 0 0 0 1 0 N 0 0 := by
    intro h
    have h5 := h.2.2.2.2
    unfold fitsP at h5
    omega
  have hwd : Wide A 1 0 0 0 0 N 0 0 := wide_of (by omega) (by omega) (by omega) (by omega) (by omega) (by omega) (by omega) (by omega) (by omega)
  have hmk : ∀ W : World, (Instr.makeSlice 28 (.int .i64 1) (.int .i64 1)).run Try.prog W = .ok (.slice (some ⟨W.heap.size, 0, none⟩) 1 1) (W.alloc (.cells #[.int .u16 0] 26)) := fun W => make_any (P := Try.prog) 28 26 (.int .u16 0) 2 Try.underlying28 infoW rfl 1 (by omega) (by omega) W
  have hix48 : ∀ W : World, (Instr.index 44 (.agg #[.int .i64 1, .int .i64 2, .int .i64 3, .int .i64 4, .int .i64 15, .int .i64 16, .int .i64 23, .int .i64 23]) (.int .i64 7)).run Try.prog W = .ok (.int .i64 23) W := fun W => run_index_ints _ 8 _ 7 _ W Try.underlying44 (by omega) (by omega) rfl
  have hix51 : ∀ W : World, (Instr.index 47 (.agg #[.int .i64 0, .int .i64 1, .int .i64 M, .int .i64 (M + 1), .int .i64 (1 + z)]) (.int .i64 o)).run Try.prog W = .ok (.int .i64 N) W := fun W => run_index_ints _ 5 _ o _ W Try.underlying47 o0 o1 hN
  have HQ := Lib.hid hq
  have HO := Lib.hid ho
  have HMR : Hid (kMostR 23 = M) := hM
  have HMW : Hid (kMostW 23 = O) := hO
  have HZ := Lib.hid hz
  have HA := Lib.hid hA
  have HK := Lib.hid hk
  have HRt := Lib.hid hrt
  have HWd := Lib.hid hwd
  clear hq ho hM hO hz hA hk hrt hwd hN
  have wz : IntKind.i64.wrap (1 + z) = 1 + z := IntWalk.i64_in _ (by omega)
  have wm : IntKind.i64.wrap (M + 1) = M + 1 := IntWalk.i64_in _ (by omega)
  have hmx : max O 0 = O := by omega
  have g0 : 1 ≤ N := by omega
  have hd : decide (N ≤ M) = false := by simp; omega
  go_enter Try.func6, Try.ntmps6
  go_wp2_with fail
  refine (awake_any _).mono ?_
  rintro e w1 ⟨rfl, hb1⟩
  have HB1 := Lib.hid hb1
  clear hb1
  go_wp2_with (first
    | (go_at_call 9; (with_reducible refine (within_lit a 8 7 _ HQ.out a0 a1 (by omega) (by omega)).mono ?_); rintro e w' ⟨rfl, rfl⟩)
    | (go_at_call 18; (with_reducible refine (most_lit 23 _ _ _ HMR.out HMW.out).mono ?_); rintro e w' ⟨rfl, rfl⟩)
    | (go_at_call 9; (with_reducible refine (within_lit n M z _ HZ.out n0 n1 (by omega) (by omega)).mono ?_); rintro e w' ⟨rfl, rfl⟩)
    | (go_at_call 9; (with_reducible refine (within_lit u 5 o _ HO.out u0 u1 (by omega) (by omega)).mono ?_); rintro e w' ⟨rfl, rfl⟩)
    | (go_at_call 9; (with_reducible refine (within_lit t 65536 A _ HA.out t0 t1 (by omega) (by omega)).mono ?_); rintro e w' ⟨rfl, rfl⟩))
  go_region
  all_goals
    obtain ⟨X, hX⟩ : ∃ X, (w1.alloc (.cells #[.int .i64 23, .int .i64 A, .int .i64 1, .int .u16 0, .int .u16 0, .int .u16 0, .slice none 0 0, .slice (some ⟨w1.heap.size + 1, 0, none⟩) 1 1, .int .i64 0, .int .i64 N, .int .i64 0, .int .i64 0] 30)).alloc (.cells #[.int .u16 0] 26) = X := ⟨_, rfl⟩
    have hs1 : (w1.alloc (.cells #[.int .i64 23, .int .i64 A, .int .i64 1, .int .u16 0, .int .u16 0, .int .u16 0, .slice none 0 0, .slice (some ⟨w1.heap.size + 1, 0, none⟩) 1 1, .int .i64 0, .int .i64 N, .int .i64 0, .int .i64 0] 30)).heap.size = w1.heap.size + 1 := by simp
    have h1a : WholeV (w1.alloc (.cells #[.int .i64 23, .int .i64 A, .int .i64 1, .int .u16 0, .int .u16 0, .int .u16 0, .slice none 0 0, .slice (some ⟨w1.heap.size + 1, 0, none⟩) 1 1, .int .i64 0, .int .i64 N, .int .i64 0, .int .i64 0] 30)) w1.heap.size 30 [.int .i64 23, .int .i64 A, .int .i64 1, .int .u16 0, .int .u16 0, .int .u16 0, .slice none 0 0, .slice (some ⟨w1.heap.size + 1, 0, none⟩) 1 1, .int .i64 0, .int .i64 N, .int .i64 0, .int .i64 0] := heap_alloc_new w1 _
    have h1 : WholeV X w1.heap.size 30 [.int .i64 23, .int .i64 A, .int .i64 1, .int .u16 0, .int .u16 0, .int .u16 0, .slice none 0 0, .slice (some ⟨w1.heap.size + 1, 0, none⟩) 1 1, .int .i64 0, .int .i64 N, .int .i64 0, .int .i64 0] := by rw [← hX]; exact h1a.below ((Below.refl _ _).alloc (Nat.le_refl _) _) h1a.lt
    have hbx : Below w.heap.size w X := by rw [← hX]; exact (HB1.out.alloc HB1.out.size _).alloc (by have := HB1.out.size; simp; omega) _
    have hl2 : WholeV X (w1.heap.size + 1) 26 (([0] : List Int).map (Value.int .u16)) := by
      have h := heap_alloc_new (w1.alloc (.cells #[.int .i64 23, .int .i64 A, .int .i64 1, .int .u16 0, .int .u16 0, .int .u16 0, .slice none 0 0, .slice (some ⟨w1.heap.size + 1, 0, none⟩) 1 1, .int .i64 0, .int .i64 N, .int .i64 0, .int .i64 0] 30)) (.cells #[.int .u16 0] 26)
      rw [hs1, hX] at h
      exact h
    have hrw := hl2.row
    rw [List.length_map] at hrw
    have HRow := Lib.hid hrw.ints
    clear hl2 hrw
    rw [hX]
    have H1 := Lib.hid h1
    have HBX := Lib.hid hbx
    have hlt1 : w1.heap.size < X.heap.size := h1.lt
    obtain ⟨hy0, hy1, hy2, hy3, hy4, hy5, hy6, hy7, hy8, hy9, hy10, hy11⟩ := cells12 h1
    clear hX hs1 h1a h1 hbx
    go_wp2_with fail
    refine (pbytes_no 23 A 1 0 0 0 0 1 0 N 0 0 none (some ⟨w1.heap.size + 1, 0, none⟩) 0 1 _ HWd.out HRt.out).mono ?_
    rintro e w3 ⟨rfl, hb3'⟩
    have hb3 : Below X.heap.size X w3 := below_from (d := 1) hb3'
    have h3 := H1.out.below hb3 H1.out.lt
    have HB3 := Lib.hid (HBX.out.trans (hb3.mono HBX.out.size))
    obtain ⟨hq0, hq1, hq2, hq3, hq4, hq5, hq6, hq7, hq8, hq9, hq10, hq11⟩ := cells12 h3
    clear hb3 hb3' h3
    go_wp2_with fail
    refine (pright_no 23 A 1 0 0 0 0 1 0 N 0 0 none (some ⟨w1.heap.size + 1, 0, none⟩) 0 1 _ HWd.out HRt.out).mono ?_
    rintro e w4 ⟨rfl, hb4⟩
    have HB4 := Lib.hid (HB3.out.trans (hb4.mono HB3.out.size))
    clear hb4
    go_wp2
    go_ret
    exact ⟨rfl, HB4.out⟩

theorem walk (a0 : Int) (a1 : Int) (a2 : Int) (a3 : Int) (w0 : (Lit.int .i64 a0).wf = true) (w1 : (Lit.int .i64 a1).wf = true) (w2 : (Lit.int .i64 a2).wf = true) (w3 : (Lit.int .i64 a3).wf = true) (w : World) :
    Calls Try.prog 6 #[.int .i64 a0, .int .i64 a1, .int .i64 a2, .int .i64 a3] w fun e w' => e = .returned (.bool true) ∧ Below w.heap.size w w' := by
  have b0 := bounds_i64 w0
  have b1 := bounds_i64 w1
  have b2 := bounds_i64 w2
  have b3 := bounds_i64 w3
  rcases (by omega : a0 % 8 = 0 ∨ a0 % 8 = 1 ∨ a0 % 8 = 2 ∨ a0 % 8 = 3 ∨ a0 % 8 = 4 ∨ a0 % 8 = 5 ∨ a0 % 8 = 6 ∨ a0 % 8 = 7) with h | h | h | h | h | h | h | h
  · obtain ⟨N, hN, c0, c1⟩ := picked (kMostR 1) (a2 % kMostR 1) (a3 % 5) (by omega) (by omega) (by decide) (Int.emod_nonneg _ (by decide)) (Int.emod_lt_of_pos _ (by decide))
    rcases (by omega : (1 ≤ N ∧ N ≤ kMostR 1) ∨ N < 1 ∨ kMostR 1 < N) with hf | hf | hf
    · exact bounds_0_yes a0 a1 a2 a3 _ _ _ _ N _ w (by omega) (by omega) (by omega) (by omega) (by omega) (by omega) (by omega) (by omega) h rfl rfl rfl rfl rfl hN c0 c1 hf
    · exact bounds_0_low a0 a1 a2 a3 _ _ _ _ N _ w (by omega) (by omega) (by omega) (by omega) (by omega) (by omega) (by omega) (by omega) h rfl rfl rfl rfl rfl hN c0 c1 hf
    · exact bounds_0_high a0 a1 a2 a3 _ _ _ _ N _ w (by omega) (by omega) (by omega) (by omega) (by omega) (by omega) (by omega) (by omega) h rfl rfl rfl rfl rfl hN c0 c1 hf
  · obtain ⟨N, hN, c0, c1⟩ := picked (kMostR 2) (a2 % kMostR 2) (a3 % 5) (by omega) (by omega) (by decide) (Int.emod_nonneg _ (by decide)) (Int.emod_lt_of_pos _ (by decide))
    rcases (by omega : (1 ≤ N ∧ N ≤ kMostR 2) ∨ N < 1 ∨ kMostR 2 < N) with hf | hf | hf
    · exact bounds_1_yes a0 a1 a2 a3 _ _ _ _ N _ w (by omega) (by omega) (by omega) (by omega) (by omega) (by omega) (by omega) (by omega) h rfl rfl rfl rfl rfl hN c0 c1 hf
    · exact bounds_1_low a0 a1 a2 a3 _ _ _ _ N _ w (by omega) (by omega) (by omega) (by omega) (by omega) (by omega) (by omega) (by omega) h rfl rfl rfl rfl rfl hN c0 c1 hf
    · exact bounds_1_high a0 a1 a2 a3 _ _ _ _ N _ w (by omega) (by omega) (by omega) (by omega) (by omega) (by omega) (by omega) (by omega) h rfl rfl rfl rfl rfl hN c0 c1 hf
  · obtain ⟨N, hN, c0, c1⟩ := picked (kMostR 3) (a2 % kMostR 3) (a3 % 5) (by omega) (by omega) (by decide) (Int.emod_nonneg _ (by decide)) (Int.emod_lt_of_pos _ (by decide))
    rcases (by omega : (1 ≤ N ∧ N ≤ kMostR 3) ∨ N < 1 ∨ kMostR 3 < N) with hf | hf | hf
    · exact bounds_2_yes a0 a1 a2 a3 _ _ _ _ N _ w (by omega) (by omega) (by omega) (by omega) (by omega) (by omega) (by omega) (by omega) h rfl rfl rfl rfl rfl hN c0 c1 hf
    · exact bounds_2_low a0 a1 a2 a3 _ _ _ _ N _ w (by omega) (by omega) (by omega) (by omega) (by omega) (by omega) (by omega) (by omega) h rfl rfl rfl rfl rfl hN c0 c1 hf
    · exact bounds_2_high a0 a1 a2 a3 _ _ _ _ N _ w (by omega) (by omega) (by omega) (by omega) (by omega) (by omega) (by omega) (by omega) h rfl rfl rfl rfl rfl hN c0 c1 hf
  · obtain ⟨N, hN, c0, c1⟩ := picked (kMostR 4) (a2 % kMostR 4) (a3 % 5) (by omega) (by omega) (by decide) (Int.emod_nonneg _ (by decide)) (Int.emod_lt_of_pos _ (by decide))
    rcases (by omega : (1 ≤ N ∧ N ≤ kMostR 4) ∨ N < 1 ∨ kMostR 4 < N) with hf | hf | hf
    · exact bounds_3_yes a0 a1 a2 a3 _ _ _ _ N _ w (by omega) (by omega) (by omega) (by omega) (by omega) (by omega) (by omega) (by omega) h rfl rfl rfl rfl rfl hN c0 c1 hf
    · exact bounds_3_low a0 a1 a2 a3 _ _ _ _ N _ w (by omega) (by omega) (by omega) (by omega) (by omega) (by omega) (by omega) (by omega) h rfl rfl rfl rfl rfl hN c0 c1 hf
    · exact bounds_3_high a0 a1 a2 a3 _ _ _ _ N _ w (by omega) (by omega) (by omega) (by omega) (by omega) (by omega) (by omega) (by omega) h rfl rfl rfl rfl rfl hN c0 c1 hf
  · obtain ⟨N, hN, c0, c1⟩ := picked (kMostW 15) (a2 % kMostW 15) (a3 % 5) (by omega) (by omega) (by decide) (Int.emod_nonneg _ (by decide)) (Int.emod_lt_of_pos _ (by decide))
    rcases (by omega : (1 ≤ N ∧ N ≤ kMostW 15) ∨ N < 1 ∨ kMostW 15 < N) with hf | hf | hf
    · exact bounds_4_yes a0 a1 a2 a3 _ _ _ _ N _ w (by omega) (by omega) (by omega) (by omega) (by omega) (by omega) (by omega) (by omega) h rfl rfl rfl rfl rfl hN c0 c1 hf
    · exact bounds_4_low a0 a1 a2 a3 _ _ _ _ N _ w (by omega) (by omega) (by omega) (by omega) (by omega) (by omega) (by omega) (by omega) h rfl rfl rfl rfl rfl hN c0 c1 hf
    · exact bounds_4_high a0 a1 a2 a3 _ _ _ _ N _ w (by omega) (by omega) (by omega) (by omega) (by omega) (by omega) (by omega) (by omega) h rfl rfl rfl rfl rfl hN c0 c1 hf
  · obtain ⟨N, hN, c0, c1⟩ := picked (kMostW 16) (a2 % kMostW 16) (a3 % 5) (by omega) (by omega) (by decide) (Int.emod_nonneg _ (by decide)) (Int.emod_lt_of_pos _ (by decide))
    rcases (by omega : (1 ≤ N ∧ N ≤ kMostW 16) ∨ N < 1 ∨ kMostW 16 < N) with hf | hf | hf
    · exact bounds_5_yes a0 a1 a2 a3 _ _ _ _ N _ w (by omega) (by omega) (by omega) (by omega) (by omega) (by omega) (by omega) (by omega) h rfl rfl rfl rfl rfl hN c0 c1 hf
    · exact bounds_5_low a0 a1 a2 a3 _ _ _ _ N _ w (by omega) (by omega) (by omega) (by omega) (by omega) (by omega) (by omega) (by omega) h rfl rfl rfl rfl rfl hN c0 c1 hf
    · exact bounds_5_high a0 a1 a2 a3 _ _ _ _ N _ w (by omega) (by omega) (by omega) (by omega) (by omega) (by omega) (by omega) (by omega) h rfl rfl rfl rfl rfl hN c0 c1 hf
  · obtain ⟨N, hN, c0, c1⟩ := picked (kMostW 23) (a2 % kMostW 23) (a3 % 5) (by omega) (by omega) (by decide) (Int.emod_nonneg _ (by decide)) (Int.emod_lt_of_pos _ (by decide))
    rcases (by omega : (1 ≤ N ∧ N ≤ kMostW 23) ∨ N < 1 ∨ kMostW 23 < N) with hf | hf | hf
    · exact bounds_6_yes a0 a1 a2 a3 _ _ _ _ N _ w (by omega) (by omega) (by omega) (by omega) (by omega) (by omega) (by omega) (by omega) h rfl rfl rfl rfl rfl hN c0 c1 hf
    · exact bounds_6_low a0 a1 a2 a3 _ _ _ _ N _ w (by omega) (by omega) (by omega) (by omega) (by omega) (by omega) (by omega) (by omega) h rfl rfl rfl rfl rfl hN c0 c1 hf
    · exact bounds_6_high a0 a1 a2 a3 _ _ _ _ N _ w (by omega) (by omega) (by omega) (by omega) (by omega) (by omega) (by omega) (by omega) h rfl rfl rfl rfl rfl hN c0 c1 hf
  · obtain ⟨N, hN, c0, c1⟩ := picked (kMostR 23) (a2 % kMostR 23) (a3 % 5) (by omega) (by omega) (by decide) (Int.emod_nonneg _ (by decide)) (Int.emod_lt_of_pos _ (by decide))
    rcases (by omega : (1 ≤ N ∧ N ≤ kMostR 23) ∨ N < 1 ∨ kMostR 23 < N) with hf | hf | hf
    · exact bounds_7_yes a0 a1 a2 a3 _ _ _ _ N _ w (by omega) (by omega) (by omega) (by omega) (by omega) (by omega) (by omega) (by omega) h rfl rfl rfl rfl rfl hN c0 c1 hf
    · exact bounds_7_low a0 a1 a2 a3 _ _ _ _ N _ w (by omega) (by omega) (by omega) (by omega) (by omega) (by omega) (by omega) (by omega) h rfl rfl rfl rfl rfl hN c0 c1 hf
    · exact bounds_7_high a0 a1 a2 a3 _ _ _ _ N _ w (by omega) (by omega) (by omega) (by omega) (by omega) (by omega) (by omega) (by omega) h rfl rfl rfl rfl rfl hN c0 c1 hf

/-! ### THE ROW's STEP: WRITTEN OUT: LEAVE IT -/
set_option maxRecDepth 100000 in
theorem lifted (os : Os) (started : os.Started) (H : Type) (enc : TypeId × Value → H) :
    ReturnsInHanded {} Try.checked os 6 .any (Rows.askBoundsSpec.pre6 enc Try.prog Try.f6 Rows.askBoundsRow.domain false) (Rows.askBoundsSpec.post enc Try.prog Try.f6 false true false false) := by
  refine returnsInHanded_of_change (C := Try.checked) own started (by kernel_rfl) Try.func6
    (ChangeSpec.witness6 (enc := enc) (C := Try.checked) false ⟨#[], #[.int .i64 0, .int .i64 0, .int .i64 0, .int .i64 0], []⟩ 8 (by kernel_rfl) (by kernel_rfl) (by kernel_rfl) (by kernel_rfl)) ?_
  intro W base args ds gs before hval0 hW hcnd _
  have hval : ∀ (j : Nat) t v, Try.f6.params[j]? = some t → args[j]? = some v → Value.okWide Try.prog W .any base t v := hval0
  have hW' := hW
  obtain ⟨p, q, hA0, hV, rfl, hfz, hnd⟩ := hW
  have hA : DataW.TrodAll enc Try.prog W 0 (fun _ => true) true Try.f6.params.toList args.toList ds p := hA0
  rw [Try.params6] at hA hval
  obtain ⟨v0, vs0, d0, ds0, p0, q0, hargs, rfl, rfl, h0, r0⟩ := trodAll_cons hA
  obtain ⟨v1, vs1, d1, ds1, p1, q1, rfl, rfl, rfl, h1, r1⟩ := trodAll_cons r0
  obtain ⟨v2, vs2, d2, ds2, p2, q2, rfl, rfl, rfl, h2, r2⟩ := trodAll_cons r1
  obtain ⟨v3, vs3, d3, ds3, p3, q3, rfl, rfl, rfl, h3, r3⟩ := trodAll_cons r2
  obtain ⟨rfl, rfl, rfl⟩ := trodAll_nil r3
  obtain rfl : args = #[v0, v1, v2, v3] := by cases args; simp_all
  obtain ⟨rfl, rfl⟩ := trodVars_none hV
  obtain ⟨a0, rfl, rfl, rfl, w0⟩ := open_int Try.underlying3 (hval 0 3 v0 rfl rfl) h0
  obtain ⟨a1, rfl, rfl, rfl, w1⟩ := open_int Try.underlying3 (hval 1 3 v1 rfl rfl) h1
  obtain ⟨a2, rfl, rfl, rfl, w2⟩ := open_int Try.underlying3 (hval 2 3 v2 rfl rfl) h2
  obtain ⟨a3, rfl, rfl, rfl, w3⟩ := open_int Try.underlying3 (hval 3 3 v3 rfl rfl) h3
  clear hA0 hval0
  simp only [List.append_nil] at hW'
  refine (walk a0 a1 a2 a3 w0 w1 w2 w3 W).mono fun e W' ⟨he, bel⟩ => ?_
  subst he
  exact ⟨_, rfl, _, _, _, [], _, [], hW', trodAll_mk1 (shut_bool Try.underlying4 _), (trodAll_cons_mk (shut_int Try.underlying3 w0) (trodAll_cons_mk (shut_int Try.underlying3 w1) (trodAll_cons_mk (shut_int Try.underlying3 w2) (trodAll_cons_mk (shut_int Try.underlying3 w3) trodAll_mk0)))), rfl, bel.frame _, fun h => by cases h⟩

theorem over : Rows.askBoundsRow.holds Try.pinned (OpenSpec.ofChange Rows.askBoundsSpec) :=
  OpenClaim.holds_of_wide 6 Try.f6 rfl rfl rfl rfl rfl rfl rfl ⟨rfl, rfl, rfl, rfl, rfl⟩ rfl rfl rfl rfl rfl (by kernel_rfl) Try.func6 (by kernel_rfl)
    (of_decide_eq_true (by kernel_rfl)) (by unfold Func.isWrapper; first | (rw [if_pos (by decide +kernel)]; kernel_rfl) | (rw [if_neg (by decide +kernel)]; exact ⟨rfl, rfl⟩))
    (fun os started H enc _ => lifted os started H enc)

/-- ████ THE STATEMENT ████ -/
theorem proved : Rows.AskBoundsSaid :=
  over
#print axioms proved
end Go.Proofs.Ytebpilfogdenjaa.askBounds

/- A request by two numbers: busbarlaw0.Ask. -/
import Derived.Test.YtielfekkonflfaaLWords
import Derived.Test.YtielfekkonflfaaPOr
import Derived.Test.YtielfekkonflfaaAskBox
namespace Go.Proofs.Ytielfekkonflfaa
open Go.ChangeShapes Go.WideShapes Go.ChangeAt Go.RowKit
set_option linter.unusedVariables false
set_option linter.unusedSimpArgs false

/-- A right request came back, its lists of the call's own. -/
def AskTo (w : World) (e : Ending) (w' : World) : Prop :=
  ∃ (fn at_ n v an orr : Int) (bl wl : Nat) (ra rn co ob : Int) (BA WA : Option Addr) (bc wc : Nat) (bs : List Bool) (ws : List Int),
    e = .returned (.agg #[.int .i64 fn, .int .i64 at_, .int .i64 n, .int .u16 v, .int .u16 an, .int .u16 orr, .slice BA bl bc, .slice WA wl wc, .int .i64 ra, .int .i64 rn, .int .i64 co, .int .i64 ob]) ∧
    rightP fn at_ n v an orr bl wl ra rn co ob ∧ Wide at_ n v an orr ra rn co ob ∧ Words ws ∧
    w'.ownsRow w.heap.size 4 1 (.slice BA bl bc) bl (bs.map Value.bool) ∧ w'.ownsRow w.heap.size 25 1 (.slice WA wl wc) wl (ws.map (Value.int .u16)) ∧ Below w.heap.size w w'
/-- The request with just these fields came back, its lists of the call's own. -/
def AskOf (fn at_ n v an orr : Int) (bl wl : Nat) (ra rn co ob : Int) (bs : List Bool) (ws : List Int) (w : World) (e : Ending) (w' : World) : Prop :=
  ∃ (BA WA : Option Addr) (bc wc : Nat),
    e = .returned (.agg #[.int .i64 fn, .int .i64 at_, .int .i64 n, .int .u16 v, .int .u16 an, .int .u16 orr, .slice BA bl bc, .slice WA wl wc, .int .i64 ra, .int .i64 rn, .int .i64 co, .int .i64 ob]) ∧
    w'.ownsRow w.heap.size 4 1 (.slice BA bl bc) bl (bs.map Value.bool) ∧ w'.ownsRow w.heap.size 25 1 (.slice WA wl wc) wl (ws.map (Value.int .u16)) ∧ Below w.heap.size w w'
/-- It is a right one. -/
def AskGood (fn at_ n v an orr : Int) (bl wl : Nat) (ra rn co ob : Int) (bs : List Bool) (ws : List Int) : Prop :=
  rightP fn at_ n v an orr bl wl ra rn co ob ∧ Wide at_ n v an orr ra rn co ob ∧ Words ws ∧ bs.length = bl ∧ ws.length = wl
/-- What Ask answers to two numbers: one right request, in whatever world. -/
def AskIs (k v : Int) : Prop :=
  ∃ (fn at_ n x an orr : Int) (bl wl : Nat) (ra rn co ob : Int) (bs : List Bool) (ws : List Int), AskGood fn at_ n x an orr bl wl ra rn co ob bs ws ∧
    ∀ w, Calls Try.prog 15 #[.int .i64 k, .int .i64 v] w (AskOf fn at_ n x an orr bl wl ra rn co ob bs ws w)
theorem digit_lit (k d n z : Int) (w : World) (hz : (k.tdiv d) % n = z) (h0 : -9223372036854775808 ≤ k) (h1 : k ≤ 9223372036854775807) (hd : 1 < d) (hd1 : d ≤ 4611686018427387903) (hn : 0 < n) (hn1 : n ≤ 4611686018427387903) :
    Calls Try.prog 19 #[.int .i64 k, .int .i64 d, .int .i64 n] w fun e w' => e = .returned (.int .i64 z) ∧ w = w' := by
  subst hz
  exact digit_any k d n w h0 h1 hd hd1 hn hn1
theorem within_lit (k n z : Int) (w : World) (hz : k % n = z) (h0 : -9223372036854775808 ≤ k) (h1 : k ≤ 9223372036854775807) (hn : 0 < n) (hn1 : n ≤ 4611686018427387903) :
    Calls Try.prog 11 #[.int .i64 k, .int .i64 n] w fun e w' => e = .returned (.int .i64 z) ∧ w = w' := by
  subst hz
  exact within_any k n w h0 h1 hn hn1
theorem wide_of {at_ n v an orr ra rn co ob : Int} (a0 : 0 ≤ at_ ∧ at_ ≤ 65535) (n0 : 0 ≤ n ∧ n ≤ 65535) (v0 : 0 ≤ v ∧ v ≤ 65535) (x0 : 0 ≤ an ∧ an ≤ 65535) (o0 : 0 ≤ orr ∧ orr ≤ 65535) (r0 : 0 ≤ ra ∧ ra ≤ 65535) (m0 : 0 ≤ rn ∧ rn ≤ 65535) (c0 : 0 ≤ co ∧ co ≤ 65535) (b0 : 0 ≤ ob ∧ ob ≤ 65535) : Wide at_ n v an orr ra rn co ob := by
  constructor <;> omega

set_option maxRecDepth 100000 in
set_option maxHeartbeats 2000000 in
theorem lask_0 (k v : Int) (k0 : -9223372036854775808 ≤ k) (k1 : k ≤ 9223372036854775807) (v0 : -9223372036854775808 ≤ v) (v1 : v ≤ 9223372036854775807) (hq : k % 16 = 0) : AskIs k v := by
  obtain ⟨d1, hd1⟩ : ∃ z, (k.tdiv 16) % 40 = z := ⟨_, rfl⟩
  have d1l : 0 ≤ d1 := by omega
  have d1h : d1 < 40 := by omega
  have HD1 := Lib.hid hd1
  clear hd1
  obtain ⟨d2, hd2⟩ : ∃ z, (k.tdiv 640) % 6 = z := ⟨_, rfl⟩
  have d2l : 0 ≤ d2 := by omega
  have d2h : d2 < 6 := by omega
  have HD2 := Lib.hid hd2
  clear hd2
  obtain ⟨d3, hd3⟩ : ∃ z, (k.tdiv 3840) % 12 = z := ⟨_, rfl⟩
  have d3l : 0 ≤ d3 := by omega
  have d3h : d3 < 12 := by omega
  have HD3 := Lib.hid hd3
  clear hd3
  obtain ⟨d4, hd4⟩ : ∃ z, (k.tdiv 46080) % 65536 = z := ⟨_, rfl⟩
  have d4l : 0 ≤ d4 := by omega
  have d4h : d4 < 65536 := by omega
  have HD4 := Lib.hid hd4
  clear hd4
  have HQ := Lib.hid hq
  clear hq
  by_cases h3 : d3 = 0
  · refine ⟨1, d4, (1 + d2), 0, 0, 0, 0, 0, 0, 0, 0, 0, [], [], ⟨⟨rfl, by unfold plainP; omega, by omega, by omega, by have m1 : kMostR 1 = 2000 := rfl; have m2 : kMostW 1 = 0 := rfl; unfold fitsP; omega⟩, wide_of (by omega) (by omega) (by omega) (by omega) (by omega) (by omega) (by omega) (by omega) (by omega), (by intro x hx; cases hx), rfl, rfl⟩, fun w => ?_⟩
    go_enter Try.func15, Try.ntmps15
    go_wp2_with (first
      | (go_at_call 19; (with_reducible refine (digit_lit k 16 40 _ _ HD1.out k0 k1 (by omega) (by omega) (by omega) (by omega)).mono ?_); rintro e w' ⟨rfl, rfl⟩)
      | (go_at_call 19; (with_reducible refine (digit_lit k 640 6 _ _ HD2.out k0 k1 (by omega) (by omega) (by omega) (by omega)).mono ?_); rintro e w' ⟨rfl, rfl⟩)
      | (go_at_call 19; (with_reducible refine (digit_lit k 3840 12 _ _ HD3.out k0 k1 (by omega) (by omega) (by omega) (by omega)).mono ?_); rintro e w' ⟨rfl, rfl⟩)
      | (go_at_call 19; (with_reducible refine (digit_lit k 46080 65536 _ _ HD4.out k0 k1 (by omega) (by omega) (by omega) (by omega)).mono ?_); rintro e w' ⟨rfl, rfl⟩)
      | (go_at_call 11; (with_reducible refine (within_lit k 16 _ _ HQ.out k0 k1 (by omega) (by omega)).mono ?_); rintro e w' ⟨rfl, rfl⟩))
    exact bodyPost_ret (v := .agg #[.int .i64 1, .int .i64 d4, .int .i64 (1 + d2), .int .u16 0, .int .u16 0, .int .u16 0, .slice none 0 0, .slice none 0 0, .int .i64 0, .int .i64 0, .int .i64 0, .int .i64 0]) (by simp [results, Try.results15, go_sem]) rfl ⟨none, none, 0, 0, rfl, own_none _ _ _, own_none _ _ _, ((Below.refl _ _).alloc (Nat.le_refl _) _).alloc (by simp) _⟩
  · refine ⟨1, d1, (1 + d2), 0, 0, 0, 0, 0, 0, 0, 0, 0, [], [], ⟨⟨rfl, by unfold plainP; omega, by omega, by omega, by have m1 : kMostR 1 = 2000 := rfl; have m2 : kMostW 1 = 0 := rfl; unfold fitsP; omega⟩, wide_of (by omega) (by omega) (by omega) (by omega) (by omega) (by omega) (by omega) (by omega) (by omega), (by intro x hx; cases hx), rfl, rfl⟩, fun w => ?_⟩
    go_enter Try.func15, Try.ntmps15
    go_wp2_with (first
      | (go_at_call 19; (with_reducible refine (digit_lit k 16 40 _ _ HD1.out k0 k1 (by omega) (by omega) (by omega) (by omega)).mono ?_); rintro e w' ⟨rfl, rfl⟩)
      | (go_at_call 19; (with_reducible refine (digit_lit k 640 6 _ _ HD2.out k0 k1 (by omega) (by omega) (by omega) (by omega)).mono ?_); rintro e w' ⟨rfl, rfl⟩)
      | (go_at_call 19; (with_reducible refine (digit_lit k 3840 12 _ _ HD3.out k0 k1 (by omega) (by omega) (by omega) (by omega)).mono ?_); rintro e w' ⟨rfl, rfl⟩)
      | (go_at_call 19; (with_reducible refine (digit_lit k 46080 65536 _ _ HD4.out k0 k1 (by omega) (by omega) (by omega) (by omega)).mono ?_); rintro e w' ⟨rfl, rfl⟩)
      | (go_at_call 11; (with_reducible refine (within_lit k 16 _ _ HQ.out k0 k1 (by omega) (by omega)).mono ?_); rintro e w' ⟨rfl, rfl⟩))
    exact bodyPost_ret (v := .agg #[.int .i64 1, .int .i64 d1, .int .i64 (1 + d2), .int .u16 0, .int .u16 0, .int .u16 0, .slice none 0 0, .slice none 0 0, .int .i64 0, .int .i64 0, .int .i64 0, .int .i64 0]) (by simp [results, Try.results15, go_sem]) rfl ⟨none, none, 0, 0, rfl, own_none _ _ _, own_none _ _ _, ((Below.refl _ _).alloc (Nat.le_refl _) _).alloc (by simp) _⟩

set_option maxRecDepth 100000 in
set_option maxHeartbeats 2000000 in
theorem lask_1 (k v : Int) (k0 : -9223372036854775808 ≤ k) (k1 : k ≤ 9223372036854775807) (v0 : -9223372036854775808 ≤ v) (v1 : v ≤ 9223372036854775807) (hq : k % 16 = 1) : AskIs k v := by
  obtain ⟨d1, hd1⟩ : ∃ z, (k.tdiv 16) % 40 = z := ⟨_, rfl⟩
  have d1l : 0 ≤ d1 := by omega
  have d1h : d1 < 40 := by omega
  have HD1 := Lib.hid hd1
  clear hd1
  obtain ⟨d2, hd2⟩ : ∃ z, (k.tdiv 640) % 6 = z := ⟨_, rfl⟩
  have d2l : 0 ≤ d2 := by omega
  have d2h : d2 < 6 := by omega
  have HD2 := Lib.hid hd2
  clear hd2
  obtain ⟨d3, hd3⟩ : ∃ z, (k.tdiv 3840) % 12 = z := ⟨_, rfl⟩
  have d3l : 0 ≤ d3 := by omega
  have d3h : d3 < 12 := by omega
  have HD3 := Lib.hid hd3
  clear hd3
  obtain ⟨d4, hd4⟩ : ∃ z, (k.tdiv 46080) % 65536 = z := ⟨_, rfl⟩
  have d4l : 0 ≤ d4 := by omega
  have d4h : d4 < 65536 := by omega
  have HD4 := Lib.hid hd4
  clear hd4
  have HQ := Lib.hid hq
  clear hq
  by_cases h3 : d3 = 0
  · refine ⟨2, d4, (1 + d2), 0, 0, 0, 0, 0, 0, 0, 0, 0, [], [], ⟨⟨rfl, by unfold plainP; omega, by omega, by omega, by have m1 : kMostR 2 = 2000 := rfl; have m2 : kMostW 2 = 0 := rfl; unfold fitsP; omega⟩, wide_of (by omega) (by omega) (by omega) (by omega) (by omega) (by omega) (by omega) (by omega) (by omega), (by intro x hx; cases hx), rfl, rfl⟩, fun w => ?_⟩
    go_enter Try.func15, Try.ntmps15
    go_wp2_with (first
      | (go_at_call 19; (with_reducible refine (digit_lit k 16 40 _ _ HD1.out k0 k1 (by omega) (by omega) (by omega) (by omega)).mono ?_); rintro e w' ⟨rfl, rfl⟩)
      | (go_at_call 19; (with_reducible refine (digit_lit k 640 6 _ _ HD2.out k0 k1 (by omega) (by omega) (by omega) (by omega)).mono ?_); rintro e w' ⟨rfl, rfl⟩)
      | (go_at_call 19; (with_reducible refine (digit_lit k 3840 12 _ _ HD3.out k0 k1 (by omega) (by omega) (by omega) (by omega)).mono ?_); rintro e w' ⟨rfl, rfl⟩)
      | (go_at_call 19; (with_reducible refine (digit_lit k 46080 65536 _ _ HD4.out k0 k1 (by omega) (by omega) (by omega) (by omega)).mono ?_); rintro e w' ⟨rfl, rfl⟩)
      | (go_at_call 11; (with_reducible refine (within_lit k 16 _ _ HQ.out k0 k1 (by omega) (by omega)).mono ?_); rintro e w' ⟨rfl, rfl⟩))
    exact bodyPost_ret (v := .agg #[.int .i64 2, .int .i64 d4, .int .i64 (1 + d2), .int .u16 0, .int .u16 0, .int .u16 0, .slice none 0 0, .slice none 0 0, .int .i64 0, .int .i64 0, .int .i64 0, .int .i64 0]) (by simp [results, Try.results15, go_sem]) rfl ⟨none, none, 0, 0, rfl, own_none _ _ _, own_none _ _ _, ((Below.refl _ _).alloc (Nat.le_refl _) _).alloc (by simp) _⟩
  · refine ⟨2, d1, (1 + d2), 0, 0, 0, 0, 0, 0, 0, 0, 0, [], [], ⟨⟨rfl, by unfold plainP; omega, by omega, by omega, by have m1 : kMostR 2 = 2000 := rfl; have m2 : kMostW 2 = 0 := rfl; unfold fitsP; omega⟩, wide_of (by omega) (by omega) (by omega) (by omega) (by omega) (by omega) (by omega) (by omega) (by omega), (by intro x hx; cases hx), rfl, rfl⟩, fun w => ?_⟩
    go_enter Try.func15, Try.ntmps15
    go_wp2_with (first
      | (go_at_call 19; (with_reducible refine (digit_lit k 16 40 _ _ HD1.out k0 k1 (by omega) (by omega) (by omega) (by omega)).mono ?_); rintro e w' ⟨rfl, rfl⟩)
      | (go_at_call 19; (with_reducible refine (digit_lit k 640 6 _ _ HD2.out k0 k1 (by omega) (by omega) (by omega) (by omega)).mono ?_); rintro e w' ⟨rfl, rfl⟩)
      | (go_at_call 19; (with_reducible refine (digit_lit k 3840 12 _ _ HD3.out k0 k1 (by omega) (by omega) (by omega) (by omega)).mono ?_); rintro e w' ⟨rfl, rfl⟩)
      | (go_at_call 19; (with_reducible refine (digit_lit k 46080 65536 _ _ HD4.out k0 k1 (by omega) (by omega) (by omega) (by omega)).mono ?_); rintro e w' ⟨rfl, rfl⟩)
      | (go_at_call 11; (with_reducible refine (within_lit k 16 _ _ HQ.out k0 k1 (by omega) (by omega)).mono ?_); rintro e w' ⟨rfl, rfl⟩))
    exact bodyPost_ret (v := .agg #[.int .i64 2, .int .i64 d1, .int .i64 (1 + d2), .int .u16 0, .int .u16 0, .int .u16 0, .slice none 0 0, .slice none 0 0, .int .i64 0, .int .i64 0, .int .i64 0, .int .i64 0]) (by simp [results, Try.results15, go_sem]) rfl ⟨none, none, 0, 0, rfl, own_none _ _ _, own_none _ _ _, ((Below.refl _ _).alloc (Nat.le_refl _) _).alloc (by simp) _⟩

set_option maxRecDepth 100000 in
set_option maxHeartbeats 2000000 in
theorem lask_2 (k v : Int) (k0 : -9223372036854775808 ≤ k) (k1 : k ≤ 9223372036854775807) (v0 : -9223372036854775808 ≤ v) (v1 : v ≤ 9223372036854775807) (hq : k % 16 = 2) : AskIs k v := by
  obtain ⟨d1, hd1⟩ : ∃ z, (k.tdiv 16) % 40 = z := ⟨_, rfl⟩
  have d1l : 0 ≤ d1 := by omega
  have d1h : d1 < 40 := by omega
  have HD1 := Lib.hid hd1
  clear hd1
  obtain ⟨d2, hd2⟩ : ∃ z, (k.tdiv 640) % 6 = z := ⟨_, rfl⟩
  have d2l : 0 ≤ d2 := by omega
  have d2h : d2 < 6 := by omega
  have HD2 := Lib.hid hd2
  clear hd2
  obtain ⟨d3, hd3⟩ : ∃ z, (k.tdiv 3840) % 12 = z := ⟨_, rfl⟩
  have d3l : 0 ≤ d3 := by omega
  have d3h : d3 < 12 := by omega
  have HD3 := Lib.hid hd3
  clear hd3
  obtain ⟨d4, hd4⟩ : ∃ z, (k.tdiv 46080) % 65536 = z := ⟨_, rfl⟩
  have d4l : 0 ≤ d4 := by omega
  have d4h : d4 < 65536 := by omega
  have HD4 := Lib.hid hd4
  clear hd4
  have HQ := Lib.hid hq
  clear hq
  by_cases h3 : d3 = 0
  · refine ⟨3, d4, (1 + d2), 0, 0, 0, 0, 0, 0, 0, 0, 0, [], [], ⟨⟨rfl, by unfold plainP; omega, by omega, by omega, by have m1 : kMostR 3 = 125 := rfl; have m2 : kMostW 3 = 0 := rfl; unfold fitsP; omega⟩, wide_of (by omega) (by omega) (by omega) (by omega) (by omega) (by omega) (by omega) (by omega) (by omega), (by intro x hx; cases hx), rfl, rfl⟩, fun w => ?_⟩
    go_enter Try.func15, Try.ntmps15
    go_wp2_with (first
      | (go_at_call 19; (with_reducible refine (digit_lit k 16 40 _ _ HD1.out k0 k1 (by omega) (by omega) (by omega) (by omega)).mono ?_); rintro e w' ⟨rfl, rfl⟩)
      | (go_at_call 19; (with_reducible refine (digit_lit k 640 6 _ _ HD2.out k0 k1 (by omega) (by omega) (by omega) (by omega)).mono ?_); rintro e w' ⟨rfl, rfl⟩)
      | (go_at_call 19; (with_reducible refine (digit_lit k 3840 12 _ _ HD3.out k0 k1 (by omega) (by omega) (by omega) (by omega)).mono ?_); rintro e w' ⟨rfl, rfl⟩)
      | (go_at_call 19; (with_reducible refine (digit_lit k 46080 65536 _ _ HD4.out k0 k1 (by omega) (by omega) (by omega) (by omega)).mono ?_); rintro e w' ⟨rfl, rfl⟩)
      | (go_at_call 11; (with_reducible refine (within_lit k 16 _ _ HQ.out k0 k1 (by omega) (by omega)).mono ?_); rintro e w' ⟨rfl, rfl⟩))
    exact bodyPost_ret (v := .agg #[.int .i64 3, .int .i64 d4, .int .i64 (1 + d2), .int .u16 0, .int .u16 0, .int .u16 0, .slice none 0 0, .slice none 0 0, .int .i64 0, .int .i64 0, .int .i64 0, .int .i64 0]) (by simp [results, Try.results15, go_sem]) rfl ⟨none, none, 0, 0, rfl, own_none _ _ _, own_none _ _ _, ((Below.refl _ _).alloc (Nat.le_refl _) _).alloc (by simp) _⟩
  · refine ⟨3, d1, (1 + d2), 0, 0, 0, 0, 0, 0, 0, 0, 0, [], [], ⟨⟨rfl, by unfold plainP; omega, by omega, by omega, by have m1 : kMostR 3 = 125 := rfl; have m2 : kMostW 3 = 0 := rfl; unfold fitsP; omega⟩, wide_of (by omega) (by omega) (by omega) (by omega) (by omega) (by omega) (by omega) (by omega) (by omega), (by intro x hx; cases hx), rfl, rfl⟩, fun w => ?_⟩
    go_enter Try.func15, Try.ntmps15
    go_wp2_with (first
      | (go_at_call 19; (with_reducible refine (digit_lit k 16 40 _ _ HD1.out k0 k1 (by omega) (by omega) (by omega) (by omega)).mono ?_); rintro e w' ⟨rfl, rfl⟩)
      | (go_at_call 19; (with_reducible refine (digit_lit k 640 6 _ _ HD2.out k0 k1 (by omega) (by omega) (by omega) (by omega)).mono ?_); rintro e w' ⟨rfl, rfl⟩)
      | (go_at_call 19; (with_reducible refine (digit_lit k 3840 12 _ _ HD3.out k0 k1 (by omega) (by omega) (by omega) (by omega)).mono ?_); rintro e w' ⟨rfl, rfl⟩)
      | (go_at_call 19; (with_reducible refine (digit_lit k 46080 65536 _ _ HD4.out k0 k1 (by omega) (by omega) (by omega) (by omega)).mono ?_); rintro e w' ⟨rfl, rfl⟩)
      | (go_at_call 11; (with_reducible refine (within_lit k 16 _ _ HQ.out k0 k1 (by omega) (by omega)).mono ?_); rintro e w' ⟨rfl, rfl⟩))
    exact bodyPost_ret (v := .agg #[.int .i64 3, .int .i64 d1, .int .i64 (1 + d2), .int .u16 0, .int .u16 0, .int .u16 0, .slice none 0 0, .slice none 0 0, .int .i64 0, .int .i64 0, .int .i64 0, .int .i64 0]) (by simp [results, Try.results15, go_sem]) rfl ⟨none, none, 0, 0, rfl, own_none _ _ _, own_none _ _ _, ((Below.refl _ _).alloc (Nat.le_refl _) _).alloc (by simp) _⟩

set_option maxRecDepth 100000 in
set_option maxHeartbeats 2000000 in
theorem lask_3 (k v : Int) (k0 : -9223372036854775808 ≤ k) (k1 : k ≤ 9223372036854775807) (v0 : -9223372036854775808 ≤ v) (v1 : v ≤ 9223372036854775807) (hq : k % 16 = 3) : AskIs k v := by
  obtain ⟨d1, hd1⟩ : ∃ z, (k.tdiv 16) % 40 = z := ⟨_, rfl⟩
  have d1l : 0 ≤ d1 := by omega
  have d1h : d1 < 40 := by omega
  have HD1 := Lib.hid hd1
  clear hd1
  obtain ⟨d2, hd2⟩ : ∃ z, (k.tdiv 640) % 6 = z := ⟨_, rfl⟩
  have d2l : 0 ≤ d2 := by omega
  have d2h : d2 < 6 := by omega
  have HD2 := Lib.hid hd2
  clear hd2
  obtain ⟨d3, hd3⟩ : ∃ z, (k.tdiv 3840) % 12 = z := ⟨_, rfl⟩
  have d3l : 0 ≤ d3 := by omega
  have d3h : d3 < 12 := by omega
  have HD3 := Lib.hid hd3
  clear hd3
  obtain ⟨d4, hd4⟩ : ∃ z, (k.tdiv 46080) % 65536 = z := ⟨_, rfl⟩
  have d4l : 0 ≤ d4 := by omega
  have d4h : d4 < 65536 := by omega
  have HD4 := Lib.hid hd4
  clear hd4
  have HQ := Lib.hid hq
  clear hq
  by_cases h3 : d3 = 0
  · refine ⟨3, d4, (1 + d2), 0, 0, 0, 0, 0, 0, 0, 0, 0, [], [], ⟨⟨rfl, by unfold plainP; omega, by omega, by omega, by have m1 : kMostR 3 = 125 := rfl; have m2 : kMostW 3 = 0 := rfl; unfold fitsP; omega⟩, wide_of (by omega) (by omega) (by omega) (by omega) (by omega) (by omega) (by omega) (by omega) (by omega), (by intro x hx; cases hx), rfl, rfl⟩, fun w => ?_⟩
    go_enter Try.func15, Try.ntmps15
    go_wp2_with (first
      | (go_at_call 19; (with_reducible refine (digit_lit k 16 40 _ _ HD1.out k0 k1 (by omega) (by omega) (by omega) (by omega)).mono ?_); rintro e w' ⟨rfl, rfl⟩)
      | (go_at_call 19; (with_reducible refine (digit_lit k 640 6 _ _ HD2.out k0 k1 (by omega) (by omega) (by omega) (by omega)).mono ?_); rintro e w' ⟨rfl, rfl⟩)
      | (go_at_call 19; (with_reducible refine (digit_lit k 3840 12 _ _ HD3.out k0 k1 (by omega) (by omega) (by omega) (by omega)).mono ?_); rintro e w' ⟨rfl, rfl⟩)
      | (go_at_call 19; (with_reducible refine (digit_lit k 46080 65536 _ _ HD4.out k0 k1 (by omega) (by omega) (by omega) (by omega)).mono ?_); rintro e w' ⟨rfl, rfl⟩)
      | (go_at_call 11; (with_reducible refine (within_lit k 16 _ _ HQ.out k0 k1 (by omega) (by omega)).mono ?_); rintro e w' ⟨rfl, rfl⟩))
    exact bodyPost_ret (v := .agg #[.int .i64 3, .int .i64 d4, .int .i64 (1 + d2), .int .u16 0, .int .u16 0, .int .u16 0, .slice none 0 0, .slice none 0 0, .int .i64 0, .int .i64 0, .int .i64 0, .int .i64 0]) (by simp [results, Try.results15, go_sem]) rfl ⟨none, none, 0, 0, rfl, own_none _ _ _, own_none _ _ _, ((Below.refl _ _).alloc (Nat.le_refl _) _).alloc (by simp) _⟩
  · refine ⟨3, d1, (1 + d2), 0, 0, 0, 0, 0, 0, 0, 0, 0, [], [], ⟨⟨rfl, by unfold plainP; omega, by omega, by omega, by have m1 : kMostR 3 = 125 := rfl; have m2 : kMostW 3 = 0 := rfl; unfold fitsP; omega⟩, wide_of (by omega) (by omega) (by omega) (by omega) (by omega) (by omega) (by omega) (by omega) (by omega), (by intro x hx; cases hx), rfl, rfl⟩, fun w => ?_⟩
    go_enter Try.func15, Try.ntmps15
    go_wp2_with (first
      | (go_at_call 19; (with_reducible refine (digit_lit k 16 40 _ _ HD1.out k0 k1 (by omega) (by omega) (by omega) (by omega)).mono ?_); rintro e w' ⟨rfl, rfl⟩)
      | (go_at_call 19; (with_reducible refine (digit_lit k 640 6 _ _ HD2.out k0 k1 (by omega) (by omega) (by omega) (by omega)).mono ?_); rintro e w' ⟨rfl, rfl⟩)
      | (go_at_call 19; (with_reducible refine (digit_lit k 3840 12 _ _ HD3.out k0 k1 (by omega) (by omega) (by omega) (by omega)).mono ?_); rintro e w' ⟨rfl, rfl⟩)
      | (go_at_call 19; (with_reducible refine (digit_lit k 46080 65536 _ _ HD4.out k0 k1 (by omega) (by omega) (by omega) (by omega)).mono ?_); rintro e w' ⟨rfl, rfl⟩)
      | (go_at_call 11; (with_reducible refine (within_lit k 16 _ _ HQ.out k0 k1 (by omega) (by omega)).mono ?_); rintro e w' ⟨rfl, rfl⟩))
    exact bodyPost_ret (v := .agg #[.int .i64 3, .int .i64 d1, .int .i64 (1 + d2), .int .u16 0, .int .u16 0, .int .u16 0, .slice none 0 0, .slice none 0 0, .int .i64 0, .int .i64 0, .int .i64 0, .int .i64 0]) (by simp [results, Try.results15, go_sem]) rfl ⟨none, none, 0, 0, rfl, own_none _ _ _, own_none _ _ _, ((Below.refl _ _).alloc (Nat.le_refl _) _).alloc (by simp) _⟩

set_option maxRecDepth 100000 in
set_option maxHeartbeats 2000000 in
theorem lask_4 (k v : Int) (k0 : -9223372036854775808 ≤ k) (k1 : k ≤ 9223372036854775807) (v0 : -9223372036854775808 ≤ v) (v1 : v ≤ 9223372036854775807) (hq : k % 16 = 4) : AskIs k v := by
  obtain ⟨d1, hd1⟩ : ∃ z, (k.tdiv 16) % 40 = z := ⟨_, rfl⟩
  have d1l : 0 ≤ d1 := by omega
  have d1h : d1 < 40 := by omega
  have HD1 := Lib.hid hd1
  clear hd1
  obtain ⟨d2, hd2⟩ : ∃ z, (k.tdiv 640) % 6 = z := ⟨_, rfl⟩
  have d2l : 0 ≤ d2 := by omega
  have d2h : d2 < 6 := by omega
  have HD2 := Lib.hid hd2
  clear hd2
  obtain ⟨d3, hd3⟩ : ∃ z, (k.tdiv 3840) % 12 = z := ⟨_, rfl⟩
  have d3l : 0 ≤ d3 := by omega
  have d3h : d3 < 12 := by omega
  have HD3 := Lib.hid hd3
  clear hd3
  obtain ⟨d4, hd4⟩ : ∃ z, (k.tdiv 46080) % 65536 = z := ⟨_, rfl⟩
  have d4l : 0 ≤ d4 := by omega
  have d4h : d4 < 65536 := by omega
  have HD4 := Lib.hid hd4
  clear hd4
  have HQ := Lib.hid hq
  clear hq
  by_cases h3 : d3 = 0
  · refine ⟨3, d4, (1 + d2), 0, 0, 0, 0, 0, 0, 0, 0, 0, [], [], ⟨⟨rfl, by unfold plainP; omega, by omega, by omega, by have m1 : kMostR 3 = 125 := rfl; have m2 : kMostW 3 = 0 := rfl; unfold fitsP; omega⟩, wide_of (by omega) (by omega) (by omega) (by omega) (by omega) (by omega) (by omega) (by omega) (by omega), (by intro x hx; cases hx), rfl, rfl⟩, fun w => ?_⟩
    go_enter Try.func15, Try.ntmps15
    go_wp2_with (first
      | (go_at_call 19; (with_reducible refine (digit_lit k 16 40 _ _ HD1.out k0 k1 (by omega) (by omega) (by omega) (by omega)).mono ?_); rintro e w' ⟨rfl, rfl⟩)
      | (go_at_call 19; (with_reducible refine (digit_lit k 640 6 _ _ HD2.out k0 k1 (by omega) (by omega) (by omega) (by omega)).mono ?_); rintro e w' ⟨rfl, rfl⟩)
      | (go_at_call 19; (with_reducible refine (digit_lit k 3840 12 _ _ HD3.out k0 k1 (by omega) (by omega) (by omega) (by omega)).mono ?_); rintro e w' ⟨rfl, rfl⟩)
      | (go_at_call 19; (with_reducible refine (digit_lit k 46080 65536 _ _ HD4.out k0 k1 (by omega) (by omega) (by omega) (by omega)).mono ?_); rintro e w' ⟨rfl, rfl⟩)
      | (go_at_call 11; (with_reducible refine (within_lit k 16 _ _ HQ.out k0 k1 (by omega) (by omega)).mono ?_); rintro e w' ⟨rfl, rfl⟩))
    exact bodyPost_ret (v := .agg #[.int .i64 3, .int .i64 d4, .int .i64 (1 + d2), .int .u16 0, .int .u16 0, .int .u16 0, .slice none 0 0, .slice none 0 0, .int .i64 0, .int .i64 0, .int .i64 0, .int .i64 0]) (by simp [results, Try.results15, go_sem]) rfl ⟨none, none, 0, 0, rfl, own_none _ _ _, own_none _ _ _, ((Below.refl _ _).alloc (Nat.le_refl _) _).alloc (by simp) _⟩
  · refine ⟨3, d1, (1 + d2), 0, 0, 0, 0, 0, 0, 0, 0, 0, [], [], ⟨⟨rfl, by unfold plainP; omega, by omega, by omega, by have m1 : kMostR 3 = 125 := rfl; have m2 : kMostW 3 = 0 := rfl; unfold fitsP; omega⟩, wide_of (by omega) (by omega) (by omega) (by omega) (by omega) (by omega) (by omega) (by omega) (by omega), (by intro x hx; cases hx), rfl, rfl⟩, fun w => ?_⟩
    go_enter Try.func15, Try.ntmps15
    go_wp2_with (first
      | (go_at_call 19; (with_reducible refine (digit_lit k 16 40 _ _ HD1.out k0 k1 (by omega) (by omega) (by omega) (by omega)).mono ?_); rintro e w' ⟨rfl, rfl⟩)
      | (go_at_call 19; (with_reducible refine (digit_lit k 640 6 _ _ HD2.out k0 k1 (by omega) (by omega) (by omega) (by omega)).mono ?_); rintro e w' ⟨rfl, rfl⟩)
      | (go_at_call 19; (with_reducible refine (digit_lit k 3840 12 _ _ HD3.out k0 k1 (by omega) (by omega) (by omega) (by omega)).mono ?_); rintro e w' ⟨rfl, rfl⟩)
      | (go_at_call 19; (with_reducible refine (digit_lit k 46080 65536 _ _ HD4.out k0 k1 (by omega) (by omega) (by omega) (by omega)).mono ?_); rintro e w' ⟨rfl, rfl⟩)
      | (go_at_call 11; (with_reducible refine (within_lit k 16 _ _ HQ.out k0 k1 (by omega) (by omega)).mono ?_); rintro e w' ⟨rfl, rfl⟩))
    exact bodyPost_ret (v := .agg #[.int .i64 3, .int .i64 d1, .int .i64 (1 + d2), .int .u16 0, .int .u16 0, .int .u16 0, .slice none 0 0, .slice none 0 0, .int .i64 0, .int .i64 0, .int .i64 0, .int .i64 0]) (by simp [results, Try.results15, go_sem]) rfl ⟨none, none, 0, 0, rfl, own_none _ _ _, own_none _ _ _, ((Below.refl _ _).alloc (Nat.le_refl _) _).alloc (by simp) _⟩

set_option maxRecDepth 100000 in
set_option maxHeartbeats 2000000 in
theorem lask_5 (k v : Int) (k0 : -9223372036854775808 ≤ k) (k1 : k ≤ 9223372036854775807) (v0 : -9223372036854775808 ≤ v) (v1 : v ≤ 9223372036854775807) (hq : k % 16 = 5) : AskIs k v := by
  obtain ⟨d1, hd1⟩ : ∃ z, (k.tdiv 16) % 40 = z := ⟨_, rfl⟩
  have d1l : 0 ≤ d1 := by omega
  have d1h : d1 < 40 := by omega
  have HD1 := Lib.hid hd1
  clear hd1
  obtain ⟨d2, hd2⟩ : ∃ z, (k.tdiv 640) % 6 = z := ⟨_, rfl⟩
  have d2l : 0 ≤ d2 := by omega
  have d2h : d2 < 6 := by omega
  have HD2 := Lib.hid hd2
  clear hd2
  obtain ⟨d3, hd3⟩ : ∃ z, (k.tdiv 3840) % 12 = z := ⟨_, rfl⟩
  have d3l : 0 ≤ d3 := by omega
  have d3h : d3 < 12 := by omega
  have HD3 := Lib.hid hd3
  clear hd3
  obtain ⟨d4, hd4⟩ : ∃ z, (k.tdiv 46080) % 65536 = z := ⟨_, rfl⟩
  have d4l : 0 ≤ d4 := by omega
  have d4h : d4 < 65536 := by omega
  have HD4 := Lib.hid hd4
  clear hd4
  have HQ := Lib.hid hq
  clear hq
  by_cases h3 : d3 = 0
  · refine ⟨4, d4, (1 + d2), 0, 0, 0, 0, 0, 0, 0, 0, 0, [], [], ⟨⟨rfl, by unfold plainP; omega, by omega, by omega, by have m1 : kMostR 4 = 125 := rfl; have m2 : kMostW 4 = 0 := rfl; unfold fitsP; omega⟩, wide_of (by omega) (by omega) (by omega) (by omega) (by omega) (by omega) (by omega) (by omega) (by omega), (by intro x hx; cases hx), rfl, rfl⟩, fun w => ?_⟩
    go_enter Try.func15, Try.ntmps15
    go_wp2_with (first
      | (go_at_call 19; (with_reducible refine (digit_lit k 16 40 _ _ HD1.out k0 k1 (by omega) (by omega) (by omega) (by omega)).mono ?_); rintro e w' ⟨rfl, rfl⟩)
      | (go_at_call 19; (with_reducible refine (digit_lit k 640 6 _ _ HD2.out k0 k1 (by omega) (by omega) (by omega) (by omega)).mono ?_); rintro e w' ⟨rfl, rfl⟩)
      | (go_at_call 19; (with_reducible refine (digit_lit k 3840 12 _ _ HD3.out k0 k1 (by omega) (by omega) (by omega) (by omega)).mono ?_); rintro e w' ⟨rfl, rfl⟩)
      | (go_at_call 19; (with_reducible refine (digit_lit k 46080 65536 _ _ HD4.out k0 k1 (by omega) (by omega) (by omega) (by omega)).mono ?_); rintro e w' ⟨rfl, rfl⟩)
      | (go_at_call 11; (with_reducible refine (within_lit k 16 _ _ HQ.out k0 k1 (by omega) (by omega)).mono ?_); rintro e w' ⟨rfl, rfl⟩))
    exact bodyPost_ret (v := .agg #[.int .i64 4, .int .i64 d4, .int .i64 (1 + d2), .int .u16 0, .int .u16 0, .int .u16 0, .slice none 0 0, .slice none 0 0, .int .i64 0, .int .i64 0, .int .i64 0, .int .i64 0]) (by simp [results, Try.results15, go_sem]) rfl ⟨none, none, 0, 0, rfl, own_none _ _ _, own_none _ _ _, ((Below.refl _ _).alloc (Nat.le_refl _) _).alloc (by simp) _⟩
  · refine ⟨4, d1, (1 + d2), 0, 0, 0, 0, 0, 0, 0, 0, 0, [], [], ⟨⟨rfl, by unfold plainP; omega, by omega, by omega, by have m1 : kMostR 4 = 125 := rfl; have m2 : kMostW 4 = 0 := rfl; unfold fitsP; omega⟩, wide_of (by omega) (by omega) (by omega) (by omega) (by omega) (by omega) (by omega) (by omega) (by omega), (by intro x hx; cases hx), rfl, rfl⟩, fun w => ?_⟩
    go_enter Try.func15, Try.ntmps15
    go_wp2_with (first
      | (go_at_call 19; (with_reducible refine (digit_lit k 16 40 _ _ HD1.out k0 k1 (by omega) (by omega) (by omega) (by omega)).mono ?_); rintro e w' ⟨rfl, rfl⟩)
      | (go_at_call 19; (with_reducible refine (digit_lit k 640 6 _ _ HD2.out k0 k1 (by omega) (by omega) (by omega) (by omega)).mono ?_); rintro e w' ⟨rfl, rfl⟩)
      | (go_at_call 19; (with_reducible refine (digit_lit k 3840 12 _ _ HD3.out k0 k1 (by omega) (by omega) (by omega) (by omega)).mono ?_); rintro e w' ⟨rfl, rfl⟩)
      | (go_at_call 19; (with_reducible refine (digit_lit k 46080 65536 _ _ HD4.out k0 k1 (by omega) (by omega) (by omega) (by omega)).mono ?_); rintro e w' ⟨rfl, rfl⟩)
      | (go_at_call 11; (with_reducible refine (within_lit k 16 _ _ HQ.out k0 k1 (by omega) (by omega)).mono ?_); rintro e w' ⟨rfl, rfl⟩))
    exact bodyPost_ret (v := .agg #[.int .i64 4, .int .i64 d1, .int .i64 (1 + d2), .int .u16 0, .int .u16 0, .int .u16 0, .slice none 0 0, .slice none 0 0, .int .i64 0, .int .i64 0, .int .i64 0, .int .i64 0]) (by simp [results, Try.results15, go_sem]) rfl ⟨none, none, 0, 0, rfl, own_none _ _ _, own_none _ _ _, ((Below.refl _ _).alloc (Nat.le_refl _) _).alloc (by simp) _⟩

set_option maxRecDepth 100000 in
set_option maxHeartbeats 2000000 in
theorem lask_6 (k v : Int) (k0 : -9223372036854775808 ≤ k) (k1 : k ≤ 9223372036854775807) (v0 : -9223372036854775808 ≤ v) (v1 : v ≤ 9223372036854775807) (hq : k % 16 = 6) : AskIs k v := by
  obtain ⟨d1, hd1⟩ : ∃ z, (k.tdiv 16) % 40 = z := ⟨_, rfl⟩
  have d1l : 0 ≤ d1 := by omega
  have d1h : d1 < 40 := by omega
  have HD1 := Lib.hid hd1
  clear hd1
  obtain ⟨d2, hd2⟩ : ∃ z, (k.tdiv 640) % 6 = z := ⟨_, rfl⟩
  have d2l : 0 ≤ d2 := by omega
  have d2h : d2 < 6 := by omega
  have HD2 := Lib.hid hd2
  clear hd2
  obtain ⟨d3, hd3⟩ : ∃ z, (k.tdiv 3840) % 12 = z := ⟨_, rfl⟩
  have d3l : 0 ≤ d3 := by omega
  have d3h : d3 < 12 := by omega
  have HD3 := Lib.hid hd3
  clear hd3
  obtain ⟨d4, hd4⟩ : ∃ z, (k.tdiv 46080) % 65536 = z := ⟨_, rfl⟩
  have d4l : 0 ≤ d4 := by omega
  have d4h : d4 < 65536 := by omega
  have HD4 := Lib.hid hd4
  clear hd4
  obtain ⟨e1, he1⟩ : ∃ z, v % 2 = z := ⟨_, rfl⟩
  have e1l : 0 ≤ e1 := by omega
  have e1h : e1 < 2 := by omega
  have HE1 := Lib.hid he1
  clear he1
  have HQ := Lib.hid hq
  clear hq
  by_cases h3 : d3 = 0
  · refine ⟨5, d4, 0, e1, 0, 0, 0, 0, 0, 0, 0, 0, [], [], ⟨⟨rfl, by unfold plainP; omega, by omega, by omega, by have m1 : kMostR 5 = 0 := rfl; have m2 : kMostW 5 = 1 := rfl; unfold fitsP; omega⟩, wide_of (by omega) (by omega) (by omega) (by omega) (by omega) (by omega) (by omega) (by omega) (by omega), (by intro x hx; cases hx), rfl, rfl⟩, fun w => ?_⟩
    go_enter Try.func15, Try.ntmps15
    go_wp2_with (first
      | (go_at_call 19; (with_reducible refine (digit_lit k 16 40 _ _ HD1.out k0 k1 (by omega) (by omega) (by omega) (by omega)).mono ?_); rintro e w' ⟨rfl, rfl⟩)
      | (go_at_call 19; (with_reducible refine (digit_lit k 640 6 _ _ HD2.out k0 k1 (by omega) (by omega) (by omega) (by omega)).mono ?_); rintro e w' ⟨rfl, rfl⟩)
      | (go_at_call 19; (with_reducible refine (digit_lit k 3840 12 _ _ HD3.out k0 k1 (by omega) (by omega) (by omega) (by omega)).mono ?_); rintro e w' ⟨rfl, rfl⟩)
      | (go_at_call 19; (with_reducible refine (digit_lit k 46080 65536 _ _ HD4.out k0 k1 (by omega) (by omega) (by omega) (by omega)).mono ?_); rintro e w' ⟨rfl, rfl⟩)
      | (go_at_call 11; (with_reducible refine (within_lit k 16 _ _ HQ.out k0 k1 (by omega) (by omega)).mono ?_); rintro e w' ⟨rfl, rfl⟩)
      | (go_at_call 11; (with_reducible refine (within_lit v 2 _ _ HE1.out v0 v1 (by omega) (by omega)).mono ?_); rintro e w' ⟨rfl, rfl⟩))
    exact bodyPost_ret (v := .agg #[.int .i64 5, .int .i64 d4, .int .i64 0, .int .u16 e1, .int .u16 0, .int .u16 0, .slice none 0 0, .slice none 0 0, .int .i64 0, .int .i64 0, .int .i64 0, .int .i64 0]) (by simp [results, Try.results15, go_sem]) rfl ⟨none, none, 0, 0, rfl, own_none _ _ _, own_none _ _ _, ((Below.refl _ _).alloc (Nat.le_refl _) _).alloc (by simp) _⟩
  · refine ⟨5, d1, 0, e1, 0, 0, 0, 0, 0, 0, 0, 0, [], [], ⟨⟨rfl, by unfold plainP; omega, by omega, by omega, by have m1 : kMostR 5 = 0 := rfl; have m2 : kMostW 5 = 1 := rfl; unfold fitsP; omega⟩, wide_of (by omega) (by omega) (by omega) (by omega) (by omega) (by omega) (by omega) (by omega) (by omega), (by intro x hx; cases hx), rfl, rfl⟩, fun w => ?_⟩
    go_enter Try.func15, Try.ntmps15
    go_wp2_with (first
      | (go_at_call 19; (with_reducible refine (digit_lit k 16 40 _ _ HD1.out k0 k1 (by omega) (by omega) (by omega) (by omega)).mono ?_); rintro e w' ⟨rfl, rfl⟩)
      | (go_at_call 19; (with_reducible refine (digit_lit k 640 6 _ _ HD2.out k0 k1 (by omega) (by omega) (by omega) (by omega)).mono ?_); rintro e w' ⟨rfl, rfl⟩)
      | (go_at_call 19; (with_reducible refine (digit_lit k 3840 12 _ _ HD3.out k0 k1 (by omega) (by omega) (by omega) (by omega)).mono ?_); rintro e w' ⟨rfl, rfl⟩)
      | (go_at_call 19; (with_reducible refine (digit_lit k 46080 65536 _ _ HD4.out k0 k1 (by omega) (by omega) (by omega) (by omega)).mono ?_); rintro e w' ⟨rfl, rfl⟩)
      | (go_at_call 11; (with_reducible refine (within_lit k 16 _ _ HQ.out k0 k1 (by omega) (by omega)).mono ?_); rintro e w' ⟨rfl, rfl⟩)
      | (go_at_call 11; (with_reducible refine (within_lit v 2 _ _ HE1.out v0 v1 (by omega) (by omega)).mono ?_); rintro e w' ⟨rfl, rfl⟩))
    exact bodyPost_ret (v := .agg #[.int .i64 5, .int .i64 d1, .int .i64 0, .int .u16 e1, .int .u16 0, .int .u16 0, .slice none 0 0, .slice none 0 0, .int .i64 0, .int .i64 0, .int .i64 0, .int .i64 0]) (by simp [results, Try.results15, go_sem]) rfl ⟨none, none, 0, 0, rfl, own_none _ _ _, own_none _ _ _, ((Below.refl _ _).alloc (Nat.le_refl _) _).alloc (by simp) _⟩

set_option maxRecDepth 100000 in
set_option maxHeartbeats 2000000 in
theorem lask_7 (k v : Int) (k0 : -9223372036854775808 ≤ k) (k1 : k ≤ 9223372036854775807) (v0 : -9223372036854775808 ≤ v) (v1 : v ≤ 9223372036854775807) (hq : k % 16 = 7) : AskIs k v := by
  obtain ⟨d1, hd1⟩ : ∃ z, (k.tdiv 16) % 40 = z := ⟨_, rfl⟩
  have d1l : 0 ≤ d1 := by omega
  have d1h : d1 < 40 := by omega
  have HD1 := Lib.hid hd1
  clear hd1
  obtain ⟨d2, hd2⟩ : ∃ z, (k.tdiv 640) % 6 = z := ⟨_, rfl⟩
  have d2l : 0 ≤ d2 := by omega
  have d2h : d2 < 6 := by omega
  have HD2 := Lib.hid hd2
  clear hd2
  obtain ⟨d3, hd3⟩ : ∃ z, (k.tdiv 3840) % 12 = z := ⟨_, rfl⟩
  have d3l : 0 ≤ d3 := by omega
  have d3h : d3 < 12 := by omega
  have HD3 := Lib.hid hd3
  clear hd3
  obtain ⟨d4, hd4⟩ : ∃ z, (k.tdiv 46080) % 65536 = z := ⟨_, rfl⟩
  have d4l : 0 ≤ d4 := by omega
  have d4h : d4 < 65536 := by omega
  have HD4 := Lib.hid hd4
  clear hd4
  obtain ⟨e1, he1⟩ : ∃ z, v % 60000 = z := ⟨_, rfl⟩
  have e1l : 0 ≤ e1 := by omega
  have e1h : e1 < 60000 := by omega
  have HE1 := Lib.hid he1
  clear he1
  have HQ := Lib.hid hq
  clear hq
  by_cases h3 : d3 = 0
  · refine ⟨6, d4, 0, e1, 0, 0, 0, 0, 0, 0, 0, 0, [], [], ⟨⟨rfl, by unfold plainP; omega, by omega, by omega, by have m1 : kMostR 6 = 0 := rfl; have m2 : kMostW 6 = 1 := rfl; unfold fitsP; omega⟩, wide_of (by omega) (by omega) (by omega) (by omega) (by omega) (by omega) (by omega) (by omega) (by omega), (by intro x hx; cases hx), rfl, rfl⟩, fun w => ?_⟩
    go_enter Try.func15, Try.ntmps15
    go_wp2_with (first
      | (go_at_call 19; (with_reducible refine (digit_lit k 16 40 _ _ HD1.out k0 k1 (by omega) (by omega) (by omega) (by omega)).mono ?_); rintro e w' ⟨rfl, rfl⟩)
      | (go_at_call 19; (with_reducible refine (digit_lit k 640 6 _ _ HD2.out k0 k1 (by omega) (by omega) (by omega) (by omega)).mono ?_); rintro e w' ⟨rfl, rfl⟩)
      | (go_at_call 19; (with_reducible refine (digit_lit k 3840 12 _ _ HD3.out k0 k1 (by omega) (by omega) (by omega) (by omega)).mono ?_); rintro e w' ⟨rfl, rfl⟩)
      | (go_at_call 19; (with_reducible refine (digit_lit k 46080 65536 _ _ HD4.out k0 k1 (by omega) (by omega) (by omega) (by omega)).mono ?_); rintro e w' ⟨rfl, rfl⟩)
      | (go_at_call 11; (with_reducible refine (within_lit k 16 _ _ HQ.out k0 k1 (by omega) (by omega)).mono ?_); rintro e w' ⟨rfl, rfl⟩)
      | (go_at_call 11; (with_reducible refine (within_lit v 60000 _ _ HE1.out v0 v1 (by omega) (by omega)).mono ?_); rintro e w' ⟨rfl, rfl⟩))
    exact bodyPost_ret (v := .agg #[.int .i64 6, .int .i64 d4, .int .i64 0, .int .u16 e1, .int .u16 0, .int .u16 0, .slice none 0 0, .slice none 0 0, .int .i64 0, .int .i64 0, .int .i64 0, .int .i64 0]) (by simp [results, Try.results15, go_sem]) rfl ⟨none, none, 0, 0, rfl, own_none _ _ _, own_none _ _ _, ((Below.refl _ _).alloc (Nat.le_refl _) _).alloc (by simp) _⟩
  · refine ⟨6, d1, 0, e1, 0, 0, 0, 0, 0, 0, 0, 0, [], [], ⟨⟨rfl, by unfold plainP; omega, by omega, by omega, by have m1 : kMostR 6 = 0 := rfl; have m2 : kMostW 6 = 1 := rfl; unfold fitsP; omega⟩, wide_of (by omega) (by omega) (by omega) (by omega) (by omega) (by omega) (by omega) (by omega) (by omega), (by intro x hx; cases hx), rfl, rfl⟩, fun w => ?_⟩
    go_enter Try.func15, Try.ntmps15
    go_wp2_with (first
      | (go_at_call 19; (with_reducible refine (digit_lit k 16 40 _ _ HD1.out k0 k1 (by omega) (by omega) (by omega) (by omega)).mono ?_); rintro e w' ⟨rfl, rfl⟩)
      | (go_at_call 19; (with_reducible refine (digit_lit k 640 6 _ _ HD2.out k0 k1 (by omega) (by omega) (by omega) (by omega)).mono ?_); rintro e w' ⟨rfl, rfl⟩)
      | (go_at_call 19; (with_reducible refine (digit_lit k 3840 12 _ _ HD3.out k0 k1 (by omega) (by omega) (by omega) (by omega)).mono ?_); rintro e w' ⟨rfl, rfl⟩)
      | (go_at_call 19; (with_reducible refine (digit_lit k 46080 65536 _ _ HD4.out k0 k1 (by omega) (by omega) (by omega) (by omega)).mono ?_); rintro e w' ⟨rfl, rfl⟩)
      | (go_at_call 11; (with_reducible refine (within_lit k 16 _ _ HQ.out k0 k1 (by omega) (by omega)).mono ?_); rintro e w' ⟨rfl, rfl⟩)
      | (go_at_call 11; (with_reducible refine (within_lit v 60000 _ _ HE1.out v0 v1 (by omega) (by omega)).mono ?_); rintro e w' ⟨rfl, rfl⟩))
    exact bodyPost_ret (v := .agg #[.int .i64 6, .int .i64 d1, .int .i64 0, .int .u16 e1, .int .u16 0, .int .u16 0, .slice none 0 0, .slice none 0 0, .int .i64 0, .int .i64 0, .int .i64 0, .int .i64 0]) (by simp [results, Try.results15, go_sem]) rfl ⟨none, none, 0, 0, rfl, own_none _ _ _, own_none _ _ _, ((Below.refl _ _).alloc (Nat.le_refl _) _).alloc (by simp) _⟩

set_option maxRecDepth 100000 in
set_option maxHeartbeats 2000000 in
theorem lask_8 (k v : Int) (k0 : -9223372036854775808 ≤ k) (k1 : k ≤ 9223372036854775807) (v0 : -9223372036854775808 ≤ v) (v1 : v ≤ 9223372036854775807) (hq : k % 16 = 8) : AskIs k v := by
  obtain ⟨d1, hd1⟩ : ∃ z, (k.tdiv 16) % 40 = z := ⟨_, rfl⟩
  have d1l : 0 ≤ d1 := by omega
  have d1h : d1 < 40 := by omega
  have HD1 := Lib.hid hd1
  clear hd1
  obtain ⟨d2, hd2⟩ : ∃ z, (k.tdiv 640) % 6 = z := ⟨_, rfl⟩
  have d2l : 0 ≤ d2 := by omega
  have d2h : d2 < 6 := by omega
  have HD2 := Lib.hid hd2
  clear hd2
  obtain ⟨d3, hd3⟩ : ∃ z, (k.tdiv 3840) % 12 = z := ⟨_, rfl⟩
  have d3l : 0 ≤ d3 := by omega
  have d3h : d3 < 12 := by omega
  have HD3 := Lib.hid hd3
  clear hd3
  obtain ⟨d4, hd4⟩ : ∃ z, (k.tdiv 46080) % 65536 = z := ⟨_, rfl⟩
  have d4l : 0 ≤ d4 := by omega
  have d4h : d4 < 65536 := by omega
  have HD4 := Lib.hid hd4
  clear hd4
  obtain ⟨e1, he1⟩ : ∃ z, v % 60000 = z := ⟨_, rfl⟩
  have e1l : 0 ≤ e1 := by omega
  have e1h : e1 < 60000 := by omega
  have HE1 := Lib.hid he1
  clear he1
  have HQ := Lib.hid hq
  clear hq
  by_cases h3 : d3 = 0
  · refine ⟨6, d4, 0, e1, 0, 0, 0, 0, 0, 0, 0, 0, [], [], ⟨⟨rfl, by unfold plainP; omega, by omega, by omega, by have m1 : kMostR 6 = 0 := rfl; have m2 : kMostW 6 = 1 := rfl; unfold fitsP; omega⟩, wide_of (by omega) (by omega) (by omega) (by omega) (by omega) (by omega) (by omega) (by omega) (by omega), (by intro x hx; cases hx), rfl, rfl⟩, fun w => ?_⟩
    go_enter Try.func15, Try.ntmps15
    go_wp2_with (first
      | (go_at_call 19; (with_reducible refine (digit_lit k 16 40 _ _ HD1.out k0 k1 (by omega) (by omega) (by omega) (by omega)).mono ?_); rintro e w' ⟨rfl, rfl⟩)
      | (go_at_call 19; (with_reducible refine (digit_lit k 640 6 _ _ HD2.out k0 k1 (by omega) (by omega) (by omega) (by omega)).mono ?_); rintro e w' ⟨rfl, rfl⟩)
      | (go_at_call 19; (with_reducible refine (digit_lit k 3840 12 _ _ HD3.out k0 k1 (by omega) (by omega) (by omega) (by omega)).mono ?_); rintro e w' ⟨rfl, rfl⟩)
      | (go_at_call 19; (with_reducible refine (digit_lit k 46080 65536 _ _ HD4.out k0 k1 (by omega) (by omega) (by omega) (by omega)).mono ?_); rintro e w' ⟨rfl, rfl⟩)
      | (go_at_call 11; (with_reducible refine (within_lit k 16 _ _ HQ.out k0 k1 (by omega) (by omega)).mono ?_); rintro e w' ⟨rfl, rfl⟩)
      | (go_at_call 11; (with_reducible refine (within_lit v 60000 _ _ HE1.out v0 v1 (by omega) (by omega)).mono ?_); rintro e w' ⟨rfl, rfl⟩))
    exact bodyPost_ret (v := .agg #[.int .i64 6, .int .i64 d4, .int .i64 0, .int .u16 e1, .int .u16 0, .int .u16 0, .slice none 0 0, .slice none 0 0, .int .i64 0, .int .i64 0, .int .i64 0, .int .i64 0]) (by simp [results, Try.results15, go_sem]) rfl ⟨none, none, 0, 0, rfl, own_none _ _ _, own_none _ _ _, ((Below.refl _ _).alloc (Nat.le_refl _) _).alloc (by simp) _⟩
  · refine ⟨6, d1, 0, e1, 0, 0, 0, 0, 0, 0, 0, 0, [], [], ⟨⟨rfl, by unfold plainP; omega, by omega, by omega, by have m1 : kMostR 6 = 0 := rfl; have m2 : kMostW 6 = 1 := rfl; unfold fitsP; omega⟩, wide_of (by omega) (by omega) (by omega) (by omega) (by omega) (by omega) (by omega) (by omega) (by omega), (by intro x hx; cases hx), rfl, rfl⟩, fun w => ?_⟩
    go_enter Try.func15, Try.ntmps15
    go_wp2_with (first
      | (go_at_call 19; (with_reducible refine (digit_lit k 16 40 _ _ HD1.out k0 k1 (by omega) (by omega) (by omega) (by omega)).mono ?_); rintro e w' ⟨rfl, rfl⟩)
      | (go_at_call 19; (with_reducible refine (digit_lit k 640 6 _ _ HD2.out k0 k1 (by omega) (by omega) (by omega) (by omega)).mono ?_); rintro e w' ⟨rfl, rfl⟩)
      | (go_at_call 19; (with_reducible refine (digit_lit k 3840 12 _ _ HD3.out k0 k1 (by omega) (by omega) (by omega) (by omega)).mono ?_); rintro e w' ⟨rfl, rfl⟩)
      | (go_at_call 19; (with_reducible refine (digit_lit k 46080 65536 _ _ HD4.out k0 k1 (by omega) (by omega) (by omega) (by omega)).mono ?_); rintro e w' ⟨rfl, rfl⟩)
      | (go_at_call 11; (with_reducible refine (within_lit k 16 _ _ HQ.out k0 k1 (by omega) (by omega)).mono ?_); rintro e w' ⟨rfl, rfl⟩)
      | (go_at_call 11; (with_reducible refine (within_lit v 60000 _ _ HE1.out v0 v1 (by omega) (by omega)).mono ?_); rintro e w' ⟨rfl, rfl⟩))
    exact bodyPost_ret (v := .agg #[.int .i64 6, .int .i64 d1, .int .i64 0, .int .u16 e1, .int .u16 0, .int .u16 0, .slice none 0 0, .slice none 0 0, .int .i64 0, .int .i64 0, .int .i64 0, .int .i64 0]) (by simp [results, Try.results15, go_sem]) rfl ⟨none, none, 0, 0, rfl, own_none _ _ _, own_none _ _ _, ((Below.refl _ _).alloc (Nat.le_refl _) _).alloc (by simp) _⟩

set_option maxRecDepth 100000 in
set_option maxHeartbeats 2000000 in
theorem lask_9 (k v : Int) (k0 : -9223372036854775808 ≤ k) (k1 : k ≤ 9223372036854775807) (v0 : -9223372036854775808 ≤ v) (v1 : v ≤ 9223372036854775807) (hq : k % 16 = 9) : AskIs k v := by
  obtain ⟨d1, hd1⟩ : ∃ z, (k.tdiv 16) % 40 = z := ⟨_, rfl⟩
  have d1l : 0 ≤ d1 := by omega
  have d1h : d1 < 40 := by omega
  have HD1 := Lib.hid hd1
  clear hd1
  obtain ⟨d2, hd2⟩ : ∃ z, (k.tdiv 640) % 6 = z := ⟨_, rfl⟩
  have d2l : 0 ≤ d2 := by omega
  have d2h : d2 < 6 := by omega
  have HD2 := Lib.hid hd2
  clear hd2
  obtain ⟨d3, hd3⟩ : ∃ z, (k.tdiv 3840) % 12 = z := ⟨_, rfl⟩
  have d3l : 0 ≤ d3 := by omega
  have d3h : d3 < 12 := by omega
  have HD3 := Lib.hid hd3
  clear hd3
  obtain ⟨d4, hd4⟩ : ∃ z, (k.tdiv 46080) % 65536 = z := ⟨_, rfl⟩
  have d4l : 0 ≤ d4 := by omega
  have d4h : d4 < 65536 := by omega
  have HD4 := Lib.hid hd4
  clear hd4
  obtain ⟨e1, he1⟩ : ∃ z, v % 60000 = z := ⟨_, rfl⟩
  have e1l : 0 ≤ e1 := by omega
  have e1h : e1 < 60000 := by omega
  have HE1 := Lib.hid he1
  clear he1
  have HQ := Lib.hid hq
  clear hq
  by_cases h3 : d3 = 0
  · refine ⟨6, d4, 0, e1, 0, 0, 0, 0, 0, 0, 0, 0, [], [], ⟨⟨rfl, by unfold plainP; omega, by omega, by omega, by have m1 : kMostR 6 = 0 := rfl; have m2 : kMostW 6 = 1 := rfl; unfold fitsP; omega⟩, wide_of (by omega) (by omega) (by omega) (by omega) (by omega) (by omega) (by omega) (by omega) (by omega), (by intro x hx; cases hx), rfl, rfl⟩, fun w => ?_⟩
    go_enter Try.func15, Try.ntmps15
    go_wp2_with (first
      | (go_at_call 19; (with_reducible refine (digit_lit k 16 40 _ _ HD1.out k0 k1 (by omega) (by omega) (by omega) (by omega)).mono ?_); rintro e w' ⟨rfl, rfl⟩)
      | (go_at_call 19; (with_reducible refine (digit_lit k 640 6 _ _ HD2.out k0 k1 (by omega) (by omega) (by omega) (by omega)).mono ?_); rintro e w' ⟨rfl, rfl⟩)
      | (go_at_call 19; (with_reducible refine (digit_lit k 3840 12 _ _ HD3.out k0 k1 (by omega) (by omega) (by omega) (by omega)).mono ?_); rintro e w' ⟨rfl, rfl⟩)
      | (go_at_call 19; (with_reducible refine (digit_lit k 46080 65536 _ _ HD4.out k0 k1 (by omega) (by omega) (by omega) (by omega)).mono ?_); rintro e w' ⟨rfl, rfl⟩)
      | (go_at_call 11; (with_reducible refine (within_lit k 16 _ _ HQ.out k0 k1 (by omega) (by omega)).mono ?_); rintro e w' ⟨rfl, rfl⟩)
      | (go_at_call 11; (with_reducible refine (within_lit v 60000 _ _ HE1.out v0 v1 (by omega) (by omega)).mono ?_); rintro e w' ⟨rfl, rfl⟩))
    exact bodyPost_ret (v := .agg #[.int .i64 6, .int .i64 d4, .int .i64 0, .int .u16 e1, .int .u16 0, .int .u16 0, .slice none 0 0, .slice none 0 0, .int .i64 0, .int .i64 0, .int .i64 0, .int .i64 0]) (by simp [results, Try.results15, go_sem]) rfl ⟨none, none, 0, 0, rfl, own_none _ _ _, own_none _ _ _, ((Below.refl _ _).alloc (Nat.le_refl _) _).alloc (by simp) _⟩
  · refine ⟨6, d1, 0, e1, 0, 0, 0, 0, 0, 0, 0, 0, [], [], ⟨⟨rfl, by unfold plainP; omega, by omega, by omega, by have m1 : kMostR 6 = 0 := rfl; have m2 : kMostW 6 = 1 := rfl; unfold fitsP; omega⟩, wide_of (by omega) (by omega) (by omega) (by omega) (by omega) (by omega) (by omega) (by omega) (by omega), (by intro x hx; cases hx), rfl, rfl⟩, fun w => ?_⟩
    go_enter Try.func15, Try.ntmps15
    go_wp2_with (first
      | (go_at_call 19; (with_reducible refine (digit_lit k 16 40 _ _ HD1.out k0 k1 (by omega) (by omega) (by omega) (by omega)).mono ?_); rintro e w' ⟨rfl, rfl⟩)
      | (go_at_call 19; (with_reducible refine (digit_lit k 640 6 _ _ HD2.out k0 k1 (by omega) (by omega) (by omega) (by omega)).mono ?_); rintro e w' ⟨rfl, rfl⟩)
      | (go_at_call 19; (with_reducible refine (digit_lit k 3840 12 _ _ HD3.out k0 k1 (by omega) (by omega) (by omega) (by omega)).mono ?_); rintro e w' ⟨rfl, rfl⟩)
      | (go_at_call 19; (with_reducible refine (digit_lit k 46080 65536 _ _ HD4.out k0 k1 (by omega) (by omega) (by omega) (by omega)).mono ?_); rintro e w' ⟨rfl, rfl⟩)
      | (go_at_call 11; (with_reducible refine (within_lit k 16 _ _ HQ.out k0 k1 (by omega) (by omega)).mono ?_); rintro e w' ⟨rfl, rfl⟩)
      | (go_at_call 11; (with_reducible refine (within_lit v 60000 _ _ HE1.out v0 v1 (by omega) (by omega)).mono ?_); rintro e w' ⟨rfl, rfl⟩))
    exact bodyPost_ret (v := .agg #[.int .i64 6, .int .i64 d1, .int .i64 0, .int .u16 e1, .int .u16 0, .int .u16 0, .slice none 0 0, .slice none 0 0, .int .i64 0, .int .i64 0, .int .i64 0, .int .i64 0]) (by simp [results, Try.results15, go_sem]) rfl ⟨none, none, 0, 0, rfl, own_none _ _ _, own_none _ _ _, ((Below.refl _ _).alloc (Nat.le_refl _) _).alloc (by simp) _⟩

set_option maxRecDepth 100000 in
set_option maxHeartbeats 2000000 in
theorem lask_13 (k v : Int) (k0 : -9223372036854775808 ≤ k) (k1 : k ≤ 9223372036854775807) (v0 : -9223372036854775808 ≤ v) (v1 : v ≤ 9223372036854775807) (hq : k % 16 = 13) : AskIs k v := by
  obtain ⟨d1, hd1⟩ : ∃ z, (k.tdiv 16) % 40 = z := ⟨_, rfl⟩
  have d1l : 0 ≤ d1 := by omega
  have d1h : d1 < 40 := by omega
  have HD1 := Lib.hid hd1
  clear hd1
  obtain ⟨d2, hd2⟩ : ∃ z, (k.tdiv 640) % 6 = z := ⟨_, rfl⟩
  have d2l : 0 ≤ d2 := by omega
  have d2h : d2 < 6 := by omega
  have HD2 := Lib.hid hd2
  clear hd2
  obtain ⟨d3, hd3⟩ : ∃ z, (k.tdiv 3840) % 12 = z := ⟨_, rfl⟩
  have d3l : 0 ≤ d3 := by omega
  have d3h : d3 < 12 := by omega
  have HD3 := Lib.hid hd3
  clear hd3
  obtain ⟨d4, hd4⟩ : ∃ z, (k.tdiv 46080) % 65536 = z := ⟨_, rfl⟩
  have d4l : 0 ≤ d4 := by omega
  have d4h : d4 < 65536 := by omega
  have HD4 := Lib.hid hd4
  clear hd4
  obtain ⟨e1, he1⟩ : ∃ z, v % 65536 = z := ⟨_, rfl⟩
  have e1l : 0 ≤ e1 := by omega
  have e1h : e1 < 65536 := by omega
  have HE1 := Lib.hid he1
  clear he1
  obtain ⟨e2, he2⟩ : ∃ z, (v.tdiv 65536) % 65536 = z := ⟨_, rfl⟩
  have e2l : 0 ≤ e2 := by omega
  have e2h : e2 < 65536 := by omega
  have HE2 := Lib.hid he2
  clear he2
  have HQ := Lib.hid hq
  clear hq
  by_cases h3 : d3 = 0
  · refine ⟨22, d4, 0, 0, e1, e2, 0, 0, 0, 0, 0, 0, [], [], ⟨⟨rfl, by unfold plainP; omega, by omega, by omega, by have m1 : kMostR 22 = 0 := rfl; have m2 : kMostW 22 = 1 := rfl; unfold fitsP; omega⟩, wide_of (by omega) (by omega) (by omega) (by omega) (by omega) (by omega) (by omega) (by omega) (by omega), (by intro x hx; cases hx), rfl, rfl⟩, fun w => ?_⟩
    go_enter Try.func15, Try.ntmps15
    go_wp2_with (first
      | (go_at_call 19; (with_reducible refine (digit_lit k 16 40 _ _ HD1.out k0 k1 (by omega) (by omega) (by omega) (by omega)).mono ?_); rintro e w' ⟨rfl, rfl⟩)
      | (go_at_call 19; (with_reducible refine (digit_lit k 640 6 _ _ HD2.out k0 k1 (by omega) (by omega) (by omega) (by omega)).mono ?_); rintro e w' ⟨rfl, rfl⟩)
      | (go_at_call 19; (with_reducible refine (digit_lit k 3840 12 _ _ HD3.out k0 k1 (by omega) (by omega) (by omega) (by omega)).mono ?_); rintro e w' ⟨rfl, rfl⟩)
      | (go_at_call 19; (with_reducible refine (digit_lit k 46080 65536 _ _ HD4.out k0 k1 (by omega) (by omega) (by omega) (by omega)).mono ?_); rintro e w' ⟨rfl, rfl⟩)
      | (go_at_call 11; (with_reducible refine (within_lit k 16 _ _ HQ.out k0 k1 (by omega) (by omega)).mono ?_); rintro e w' ⟨rfl, rfl⟩)
      | (go_at_call 11; (with_reducible refine (within_lit v 65536 _ _ HE1.out v0 v1 (by omega) (by omega)).mono ?_); rintro e w' ⟨rfl, rfl⟩)
      | (go_at_call 19; (with_reducible refine (digit_lit v 65536 65536 _ _ HE2.out v0 v1 (by omega) (by omega) (by omega) (by omega)).mono ?_); rintro e w' ⟨rfl, rfl⟩))
    exact bodyPost_ret (v := .agg #[.int .i64 22, .int .i64 d4, .int .i64 0, .int .u16 0, .int .u16 e1, .int .u16 e2, .slice none 0 0, .slice none 0 0, .int .i64 0, .int .i64 0, .int .i64 0, .int .i64 0]) (by simp [results, Try.results15, go_sem]) rfl ⟨none, none, 0, 0, rfl, own_none _ _ _, own_none _ _ _, ((Below.refl _ _).alloc (Nat.le_refl _) _).alloc (by simp) _⟩
  · refine ⟨22, d1, 0, 0, e1, e2, 0, 0, 0, 0, 0, 0, [], [], ⟨⟨rfl, by unfold plainP; omega, by omega, by omega, by have m1 : kMostR 22 = 0 := rfl; have m2 : kMostW 22 = 1 := rfl; unfold fitsP; omega⟩, wide_of (by omega) (by omega) (by omega) (by omega) (by omega) (by omega) (by omega) (by omega) (by omega), (by intro x hx; cases hx), rfl, rfl⟩, fun w => ?_⟩
    go_enter Try.func15, Try.ntmps15
    go_wp2_with (first
      | (go_at_call 19; (with_reducible refine (digit_lit k 16 40 _ _ HD1.out k0 k1 (by omega) (by omega) (by omega) (by omega)).mono ?_); rintro e w' ⟨rfl, rfl⟩)
      | (go_at_call 19; (with_reducible refine (digit_lit k 640 6 _ _ HD2.out k0 k1 (by omega) (by omega) (by omega) (by omega)).mono ?_); rintro e w' ⟨rfl, rfl⟩)
      | (go_at_call 19; (with_reducible refine (digit_lit k 3840 12 _ _ HD3.out k0 k1 (by omega) (by omega) (by omega) (by omega)).mono ?_); rintro e w' ⟨rfl, rfl⟩)
      | (go_at_call 19; (with_reducible refine (digit_lit k 46080 65536 _ _ HD4.out k0 k1 (by omega) (by omega) (by omega) (by omega)).mono ?_); rintro e w' ⟨rfl, rfl⟩)
      | (go_at_call 11; (with_reducible refine (within_lit k 16 _ _ HQ.out k0 k1 (by omega) (by omega)).mono ?_); rintro e w' ⟨rfl, rfl⟩)
      | (go_at_call 11; (with_reducible refine (within_lit v 65536 _ _ HE1.out v0 v1 (by omega) (by omega)).mono ?_); rintro e w' ⟨rfl, rfl⟩)
      | (go_at_call 19; (with_reducible refine (digit_lit v 65536 65536 _ _ HE2.out v0 v1 (by omega) (by omega) (by omega) (by omega)).mono ?_); rintro e w' ⟨rfl, rfl⟩))
    exact bodyPost_ret (v := .agg #[.int .i64 22, .int .i64 d1, .int .i64 0, .int .u16 0, .int .u16 e1, .int .u16 e2, .slice none 0 0, .slice none 0 0, .int .i64 0, .int .i64 0, .int .i64 0, .int .i64 0]) (by simp [results, Try.results15, go_sem]) rfl ⟨none, none, 0, 0, rfl, own_none _ _ _, own_none _ _ _, ((Below.refl _ _).alloc (Nat.le_refl _) _).alloc (by simp) _⟩

set_option maxRecDepth 100000 in
set_option maxHeartbeats 2000000 in
theorem lask_15 (k v : Int) (k0 : -9223372036854775808 ≤ k) (k1 : k ≤ 9223372036854775807) (v0 : -9223372036854775808 ≤ v) (v1 : v ≤ 9223372036854775807) (hq : k % 16 = 15) : AskIs k v := by
  obtain ⟨d1, hd1⟩ : ∃ z, (k.tdiv 16) % 40 = z := ⟨_, rfl⟩
  have d1l : 0 ≤ d1 := by omega
  have d1h : d1 < 40 := by omega
  have HD1 := Lib.hid hd1
  clear hd1
  obtain ⟨d2, hd2⟩ : ∃ z, (k.tdiv 640) % 6 = z := ⟨_, rfl⟩
  have d2l : 0 ≤ d2 := by omega
  have d2h : d2 < 6 := by omega
  have HD2 := Lib.hid hd2
  clear hd2
  obtain ⟨d3, hd3⟩ : ∃ z, (k.tdiv 3840) % 12 = z := ⟨_, rfl⟩
  have d3l : 0 ≤ d3 := by omega
  have d3h : d3 < 12 := by omega
  have HD3 := Lib.hid hd3
  clear hd3
  obtain ⟨d4, hd4⟩ : ∃ z, (k.tdiv 46080) % 65536 = z := ⟨_, rfl⟩
  have d4l : 0 ≤ d4 := by omega
  have d4h : d4 < 65536 := by omega
  have HD4 := Lib.hid hd4
  clear hd4
  obtain ⟨e1, he1⟩ : ∃ z, v % 4 = z := ⟨_, rfl⟩
  have e1l : 0 ≤ e1 := by omega
  have e1h : e1 < 4 := by omega
  have HE1 := Lib.hid he1
  clear he1
  obtain ⟨e2, he2⟩ : ∃ z, (v.tdiv 4) % 5 = z := ⟨_, rfl⟩
  have e2l : 0 ≤ e2 := by omega
  have e2h : e2 < 5 := by omega
  have HE2 := Lib.hid he2
  clear he2
  have HQ := Lib.hid hq
  clear hq
  by_cases h3 : d3 = 0
  · refine ⟨43, 0, 0, 0, 0, 0, 0, 0, 0, 0, (1 + e1), e2, [], [], ⟨⟨rfl, by unfold plainP; omega, by omega, by omega, by have m1 : kMostR 43 = 0 := rfl; have m2 : kMostW 43 = 0 := rfl; unfold fitsP; omega⟩, wide_of (by omega) (by omega) (by omega) (by omega) (by omega) (by omega) (by omega) (by omega) (by omega), (by intro x hx; cases hx), rfl, rfl⟩, fun w => ?_⟩
    go_enter Try.func15, Try.ntmps15
    go_wp2_with (first
      | (go_at_call 19; (with_reducible refine (digit_lit k 16 40 _ _ HD1.out k0 k1 (by omega) (by omega) (by omega) (by omega)).mono ?_); rintro e w' ⟨rfl, rfl⟩)
      | (go_at_call 19; (with_reducible refine (digit_lit k 640 6 _ _ HD2.out k0 k1 (by omega) (by omega) (by omega) (by omega)).mono ?_); rintro e w' ⟨rfl, rfl⟩)
      | (go_at_call 19; (with_reducible refine (digit_lit k 3840 12 _ _ HD3.out k0 k1 (by omega) (by omega) (by omega) (by omega)).mono ?_); rintro e w' ⟨rfl, rfl⟩)
      | (go_at_call 19; (with_reducible refine (digit_lit k 46080 65536 _ _ HD4.out k0 k1 (by omega) (by omega) (by omega) (by omega)).mono ?_); rintro e w' ⟨rfl, rfl⟩)
      | (go_at_call 11; (with_reducible refine (within_lit k 16 _ _ HQ.out k0 k1 (by omega) (by omega)).mono ?_); rintro e w' ⟨rfl, rfl⟩)
      | (go_at_call 11; (with_reducible refine (within_lit v 4 _ _ HE1.out v0 v1 (by omega) (by omega)).mono ?_); rintro e w' ⟨rfl, rfl⟩)
      | (go_at_call 19; (with_reducible refine (digit_lit v 4 5 _ _ HE2.out v0 v1 (by omega) (by omega) (by omega) (by omega)).mono ?_); rintro e w' ⟨rfl, rfl⟩))
    exact bodyPost_ret (v := .agg #[.int .i64 43, .int .i64 0, .int .i64 0, .int .u16 0, .int .u16 0, .int .u16 0, .slice none 0 0, .slice none 0 0, .int .i64 0, .int .i64 0, .int .i64 (1 + e1), .int .i64 e2]) (by simp [results, Try.results15, go_sem]) rfl ⟨none, none, 0, 0, rfl, own_none _ _ _, own_none _ _ _, ((Below.refl _ _).alloc (Nat.le_refl _) _).alloc (by simp) _⟩
  · refine ⟨43, 0, 0, 0, 0, 0, 0, 0, 0, 0, (1 + e1), e2, [], [], ⟨⟨rfl, by unfold plainP; omega, by omega, by omega, by have m1 : kMostR 43 = 0 := rfl; have m2 : kMostW 43 = 0 := rfl; unfold fitsP; omega⟩, wide_of (by omega) (by omega) (by omega) (by omega) (by omega) (by omega) (by omega) (by omega) (by omega), (by intro x hx; cases hx), rfl, rfl⟩, fun w => ?_⟩
    go_enter Try.func15, Try.ntmps15
    go_wp2_with (first
      | (go_at_call 19; (with_reducible refine (digit_lit k 16 40 _ _ HD1.out k0 k1 (by omega) (by omega) (by omega) (by omega)).mono ?_); rintro e w' ⟨rfl, rfl⟩)
      | (go_at_call 19; (with_reducible refine (digit_lit k 640 6 _ _ HD2.out k0 k1 (by omega) (by omega) (by omega) (by omega)).mono ?_); rintro e w' ⟨rfl, rfl⟩)
      | (go_at_call 19; (with_reducible refine (digit_lit k 3840 12 _ _ HD3.out k0 k1 (by omega) (by omega) (by omega) (by omega)).mono ?_); rintro e w' ⟨rfl, rfl⟩)
      | (go_at_call 19; (with_reducible refine (digit_lit k 46080 65536 _ _ HD4.out k0 k1 (by omega) (by omega) (by omega) (by omega)).mono ?_); rintro e w' ⟨rfl, rfl⟩)
      | (go_at_call 11; (with_reducible refine (within_lit k 16 _ _ HQ.out k0 k1 (by omega) (by omega)).mono ?_); rintro e w' ⟨rfl, rfl⟩)
      | (go_at_call 11; (with_reducible refine (within_lit v 4 _ _ HE1.out v0 v1 (by omega) (by omega)).mono ?_); rintro e w' ⟨rfl, rfl⟩)
      | (go_at_call 19; (with_reducible refine (digit_lit v 4 5 _ _ HE2.out v0 v1 (by omega) (by omega) (by omega) (by omega)).mono ?_); rintro e w' ⟨rfl, rfl⟩))
    exact bodyPost_ret (v := .agg #[.int .i64 43, .int .i64 0, .int .i64 0, .int .u16 0, .int .u16 0, .int .u16 0, .slice none 0 0, .slice none 0 0, .int .i64 0, .int .i64 0, .int .i64 (1 + e1), .int .i64 e2]) (by simp [results, Try.results15, go_sem]) rfl ⟨none, none, 0, 0, rfl, own_none _ _ _, own_none _ _ _, ((Below.refl _ _).alloc (Nat.le_refl _) _).alloc (by simp) _⟩

end Go.Proofs.Ytielfekkonflfaa

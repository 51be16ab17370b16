/- Package ask: Bytes. -/
import Derived.Test.YtebpilfogdenjaaPRight2
import Derived.Test.YtebpilfogdenjaaPPut
import Derived.Test.YtebpilfogdenjaaAskBytes
namespace Go.Proofs.Ytebpilfogdenjaa
open Go.ChangeShapes Go.WideShapes Go.ChangeAt Go.RowKit
set_option linter.unusedVariables false
set_option linter.unusedSimpArgs false

theorem pputI (A : Option Addr) (n c : Nat) (zs : List Int) (B : Option Addr) (m d : Nat) (ws : List Int) (w : World) (l : Nat) (ys : List Int) (hl : n + 2 * m = l) (hy : zs ++ flat ws = ys) (hr : Row .u8 w w.heap.size A n zs) (hw : Row .i64 w w.heap.size B m ws) (hx : Words ws) (hn : n ≤ 1000) (hm : m ≤ 1000) (hm0 : 0 < m) :
    Calls Try.prog 28 #[.slice A n c, .slice B m d] w fun e w' => ∃ g, e = .returned (.slice (some ⟨g, 0, none⟩) l l) ∧ Whole .u8 w' g 5 ys ∧ w.heap.size ≤ g ∧ Below w.heap.size w w' := by
  subst hl hy
  exact pput_any A n c zs B m d ws w hr hw hx hn hm hm0
theorem pbytes_of {P : Program} {f : FuncId} {a : Array Value} {w : World} {ys zs : List Int} {n : Nat} (h : Calls P f a w fun e w' => ∃ C cap, e = .returned (.tuple #[.slice C n cap, .int .i64 0]) ∧ w'.ownsRow w.heap.size 5 1 (.slice C n cap) n (ys.map (Value.int .u8)) ∧ Below w.heap.size w w') (hl : ys = zs) (hn : zs.length = n) :
    Calls P f a w fun e w' => ∃ C cap, e = .returned (.tuple #[.slice C zs.length cap, .int .i64 0]) ∧ w'.ownsRow w.heap.size 5 1 (.slice C zs.length cap) zs.length (zs.map (Value.int .u8)) ∧ Below w.heap.size w w' := by
  subst hl hn
  exact h
theorem own_cap {w : World} {base : Nat} {e : TypeId} {A : Option Addr} {n c : Nat} {xs : List Value} (h : w.ownsRow base e 1 (.slice A n c) n xs) : n ≤ c := by
  rcases h.2 with ⟨hv, h0⟩ | ⟨g', cap, cur, hv, _, _, hnc, _⟩
  · omega
  · injection hv with _ _ h3
    omega
theorem pbytes_no (fn at_ n v an orr : Int) (bl wl : Nat) (ra rn co ob : Int) (BA WA : Option Addr) (bc wc : Nat) (w : World) (hw : Wide at_ n v an orr ra rn co ob) (h : ¬ rightP fn at_ n v an orr bl wl ra rn co ob) :
    Calls Try.prog 15 #[.agg #[.int .i64 fn, .int .i64 at_, .int .i64 n, .int .u16 v, .int .u16 an, .int .u16 orr, .slice BA bl bc, .slice WA wl wc, .int .i64 ra, .int .i64 rn, .int .i64 co, .int .i64 ob]] w fun e w' => e = .returned (.tuple #[.slice none 0 0, .int .i64 1]) ∧ Below w.heap.size w w' := by
  have HRt := Lib.hid h
  have HW := Lib.hid hw
  clear h hw
  go_enter Try.func15, Try.ntmps15
  go_wp2_with (go_at_call 19; refine (pright_no fn at_ n v an orr bl wl ra rn co ob BA WA bc wc _ HW.out HRt.out).mono ?_; rintro e w4 ⟨rfl, hb4⟩)
  go_ret2
  exact ⟨rfl, ((Below.refl _ _).alloc (Nat.le_refl _) _).trans (hb4.mono (by simp))⟩

set_option maxHeartbeats 1000000 in
theorem pbytes_1 (at_ n v an orr : Int) (bl wl : Nat) (ra rn co ob : Int) (BA WA : Option Addr) (bc wc : Nat) (w : World) (hw : Wide at_ n v an orr ra rn co ob) (hrt : rightP 1 at_ n v an orr bl wl ra rn co ob) :
    Calls Try.prog 15 #[.agg #[.int .i64 1, .int .i64 at_, .int .i64 n, .int .u16 v, .int .u16 an, .int .u16 orr, .slice BA bl bc, .slice WA wl wc, .int .i64 ra, .int .i64 rn, .int .i64 co, .int .i64 ob]] w fun e w' => ∃ C cap, e = .returned (.tuple #[.slice C 5 cap, .int .i64 0]) ∧ w'.ownsRow w.heap.size 5 1 (.slice C 5 cap) 5 ([1, at_ / 256, at_ % 256, n / 256, n % 256].map (Value.int .u8)) ∧ Below w.heap.size w w' := by
  have hrt0 := hrt
  obtain ⟨_, hpl, ⟨a0, a1⟩, ⟨r0, r1⟩, hfit⟩ := hrt0
  unfold plainP at hpl
  unfold fitsP at hfit
  have hm1 : kMostR 1 = 2000 := rfl
  have hm2 : kMostW 1 = 0 := rfl
  have n0 : 0 ≤ n := by omega
  have n1 : n ≤ 65535 := by omega
  clear hpl hfit hm1 hm2
  have HWo : Hid (Words [at_, n]) := by intro x hx; simp only [List.mem_cons, List.not_mem_nil, or_false] at hx; rcases hx with h | h <;> omega
  have HRt := Lib.hid hrt
  have HWd := Lib.hid hw
  clear hrt hw
  go_enter Try.func15, Try.ntmps15
  go_wp2_with (first
    | (go_at_call 19
       refine (pright_yes 1 at_ n v an orr bl wl ra rn co ob BA WA bc wc _ HWd.out HRt.out).mono ?_
       rintro e w4 ⟨rfl, hb4⟩
       have HB4 : Hid (Below w.heap.size w w4) := ((Below.refl _ _).alloc (Nat.le_refl _) _).trans (hb4.mono (by simp))
       have hk4 : Below (w.heap.size + 1) (w.alloc (.cells #[.int .i64 1, .int .i64 at_, .int .i64 n, .int .u16 v, .int .u16 an, .int .u16 orr, .slice BA bl bc, .slice WA wl wc, .int .i64 ra, .int .i64 rn, .int .i64 co, .int .i64 ob] 30)) w4 := by
         rwa [show (w.alloc (.cells #[.int .i64 1, .int .i64 at_, .int .i64 n, .int .u16 v, .int .u16 an, .int .u16 orr, .slice BA bl bc, .slice WA wl wc, .int .i64 ra, .int .i64 rn, .int .i64 co, .int .i64 ob] 30)).heap.size = w.heap.size + 1 by simp] at hb4
       have hz4 : w.heap.size + 1 ≤ w4.heap.size := by have := hk4.size; simp at this; omega
       have HK4 := Lib.hid hk4
       obtain ⟨hc0, hc1, hc2, hc3, hc4, hc5, hc6, hc7, hc8, hc9, hc10, hc11⟩ := box12 _ _ _ _ _ _ _ _ _ _ _ _ _ w w4 hk4
       have hd0 : (w4.alloc (.cells #[.int .u8 1] 5)).cell? ⟨w.heap.size, 0, none⟩ = some (.int .i64 1) := (World.cell?_alloc_lt w4 _ ⟨w.heap.size, 0, none⟩ hz4).trans hc0
       have hd1 : (w4.alloc (.cells #[.int .u8 1] 5)).cell? ⟨w.heap.size, 1, none⟩ = some (.int .i64 at_) := (World.cell?_alloc_lt w4 _ ⟨w.heap.size, 1, none⟩ hz4).trans hc1
       have hd2 : (w4.alloc (.cells #[.int .u8 1] 5)).cell? ⟨w.heap.size, 2, none⟩ = some (.int .i64 n) := (World.cell?_alloc_lt w4 _ ⟨w.heap.size, 2, none⟩ hz4).trans hc2
       have HRa : Hid (Row .u8 ((w4.alloc (.cells #[.int .u8 1] 5)).alloc (.cells #[.int .i64 at_, .int .i64 n] 3)) ((w4.alloc (.cells #[.int .u8 1] 5)).alloc (.cells #[.int .i64 at_, .int .i64 n] 3)).heap.size (some ⟨w4.heap.size, 0, none⟩) 1 [1]) := built_ints .u8 w4 _ [1] _ ((Below.refl _ _).alloc (Nat.le_refl _) _)
       have HRb : Hid (Row .i64 ((w4.alloc (.cells #[.int .u8 1] 5)).alloc (.cells #[.int .i64 at_, .int .i64 n] 3)) ((w4.alloc (.cells #[.int .u8 1] 5)).alloc (.cells #[.int .i64 at_, .int .i64 n] 3)).heap.size (some ⟨w4.heap.size + 1, 0, none⟩) 2 [at_, n]) := by
         have h := built_ints .i64 (w4.alloc (.cells #[.int .u8 1] 5)) _ [at_, n] 3 (Below.refl _ _)
         rwa [show (w4.alloc (.cells #[.int .u8 1] 5)).heap.size = w4.heap.size + 1 by simp] at h
       have HBe : Hid (Below w.heap.size w ((w4.alloc (.cells #[.int .u8 1] 5)).alloc (.cells #[.int .i64 at_, .int .i64 n] 3))) := (HB4.out.alloc HB4.out.size _).alloc (by have := HB4.out.size; simp; omega) _
       clear hb4 hk4 hc1 hc2 hc3 hc4 hc5 hc6 hc7 hc8 hc9 hc10 hc11)
    | (go_at_call 28
       (with_reducible refine (pputI (some ⟨w4.heap.size, 0, none⟩) 1 1 [1] (some ⟨w4.heap.size + 1, 0, none⟩) 2 2 [at_, n] _ 5 [1, at_ / 256, at_ % 256, n / 256, n % 256] rfl rfl HRa.out HRb.out HWo.out (by omega) (by omega) (by omega)).mono ?_)
       rintro e w7 ⟨g7, rfl, hw7, hg7, hb7⟩
       have HW7 := Lib.hid hw7
       have HB7 := Lib.hid (HBe.out.trans (hb7.mono HBe.out.size))
       have HG7 : Hid (w.heap.size ≤ g7) := Nat.le_trans HBe.out.size hg7
       clear hw7 hg7 hb7))
  go_ret2
  exact ⟨_, _, rfl, own_of_whole HW7.out HG7.out rfl (by decide), HB7.out⟩

set_option maxHeartbeats 1000000 in
theorem pbytes_2 (at_ n v an orr : Int) (bl wl : Nat) (ra rn co ob : Int) (BA WA : Option Addr) (bc wc : Nat) (w : World) (hw : Wide at_ n v an orr ra rn co ob) (hrt : rightP 2 at_ n v an orr bl wl ra rn co ob) :
    Calls Try.prog 15 #[.agg #[.int .i64 2, .int .i64 at_, .int .i64 n, .int .u16 v, .int .u16 an, .int .u16 orr, .slice BA bl bc, .slice WA wl wc, .int .i64 ra, .int .i64 rn, .int .i64 co, .int .i64 ob]] w fun e w' => ∃ C cap, e = .returned (.tuple #[.slice C 5 cap, .int .i64 0]) ∧ w'.ownsRow w.heap.size 5 1 (.slice C 5 cap) 5 ([2, at_ / 256, at_ % 256, n / 256, n % 256].map (Value.int .u8)) ∧ Below w.heap.size w w' := by
  have hrt0 := hrt
  obtain ⟨_, hpl, ⟨a0, a1⟩, ⟨r0, r1⟩, hfit⟩ := hrt0
  unfold plainP at hpl
  unfold fitsP at hfit
  have hm1 : kMostR 2 = 2000 := rfl
  have hm2 : kMostW 2 = 0 := rfl
  have n0 : 0 ≤ n := by omega
  have n1 : n ≤ 65535 := by omega
  clear hpl hfit hm1 hm2
  have HWo : Hid (Words [at_, n]) := by intro x hx; simp only [List.mem_cons, List.not_mem_nil, or_false] at hx; rcases hx with h | h <;> omega
  have HRt := Lib.hid hrt
  have HWd := Lib.hid hw
  clear hrt hw
  go_enter Try.func15, Try.ntmps15
  go_wp2_with (first
    | (go_at_call 19
       refine (pright_yes 2 at_ n v an orr bl wl ra rn co ob BA WA bc wc _ HWd.out HRt.out).mono ?_
       rintro e w4 ⟨rfl, hb4⟩
       have HB4 : Hid (Below w.heap.size w w4) := ((Below.refl _ _).alloc (Nat.le_refl _) _).trans (hb4.mono (by simp))
       have hk4 : Below (w.heap.size + 1) (w.alloc (.cells #[.int .i64 2, .int .i64 at_, .int .i64 n, .int .u16 v, .int .u16 an, .int .u16 orr, .slice BA bl bc, .slice WA wl wc, .int .i64 ra, .int .i64 rn, .int .i64 co, .int .i64 ob] 30)) w4 := by
         rwa [show (w.alloc (.cells #[.int .i64 2, .int .i64 at_, .int .i64 n, .int .u16 v, .int .u16 an, .int .u16 orr, .slice BA bl bc, .slice WA wl wc, .int .i64 ra, .int .i64 rn, .int .i64 co, .int .i64 ob] 30)).heap.size = w.heap.size + 1 by simp] at hb4
       have hz4 : w.heap.size + 1 ≤ w4.heap.size := by have := hk4.size; simp at this; omega
       have HK4 := Lib.hid hk4
       obtain ⟨hc0, hc1, hc2, hc3, hc4, hc5, hc6, hc7, hc8, hc9, hc10, hc11⟩ := box12 _ _ _ _ _ _ _ _ _ _ _ _ _ w w4 hk4
       have hd0 : (w4.alloc (.cells #[.int .u8 2] 5)).cell? ⟨w.heap.size, 0, none⟩ = some (.int .i64 2) := (World.cell?_alloc_lt w4 _ ⟨w.heap.size, 0, none⟩ hz4).trans hc0
       have hd1 : (w4.alloc (.cells #[.int .u8 2] 5)).cell? ⟨w.heap.size, 1, none⟩ = some (.int .i64 at_) := (World.cell?_alloc_lt w4 _ ⟨w.heap.size, 1, none⟩ hz4).trans hc1
       have hd2 : (w4.alloc (.cells #[.int .u8 2] 5)).cell? ⟨w.heap.size, 2, none⟩ = some (.int .i64 n) := (World.cell?_alloc_lt w4 _ ⟨w.heap.size, 2, none⟩ hz4).trans hc2
       have HRa : Hid (Row .u8 ((w4.alloc (.cells #[.int .u8 2] 5)).alloc (.cells #[.int .i64 at_, .int .i64 n] 3)) ((w4.alloc (.cells #[.int .u8 2] 5)).alloc (.cells #[.int .i64 at_, .int .i64 n] 3)).heap.size (some ⟨w4.heap.size, 0, none⟩) 1 [2]) := built_ints .u8 w4 _ [2] _ ((Below.refl _ _).alloc (Nat.le_refl _) _)
       have HRb : Hid (Row .i64 ((w4.alloc (.cells #[.int .u8 2] 5)).alloc (.cells #[.int .i64 at_, .int .i64 n] 3)) ((w4.alloc (.cells #[.int .u8 2] 5)).alloc (.cells #[.int .i64 at_, .int .i64 n] 3)).heap.size (some ⟨w4.heap.size + 1, 0, none⟩) 2 [at_, n]) := by
         have h := built_ints .i64 (w4.alloc (.cells #[.int .u8 2] 5)) _ [at_, n] 3 (Below.refl _ _)
         rwa [show (w4.alloc (.cells #[.int .u8 2] 5)).heap.size = w4.heap.size + 1 by simp] at h
       have HBe : Hid (Below w.heap.size w ((w4.alloc (.cells #[.int .u8 2] 5)).alloc (.cells #[.int .i64 at_, .int .i64 n] 3))) := (HB4.out.alloc HB4.out.size _).alloc (by have := HB4.out.size; simp; omega) _
       clear hb4 hk4 hc1 hc2 hc3 hc4 hc5 hc6 hc7 hc8 hc9 hc10 hc11)
    | (go_at_call 28
       (with_reducible refine (pputI (some ⟨w4.heap.size, 0, none⟩) 1 1 [2] (some ⟨w4.heap.size + 1, 0, none⟩) 2 2 [at_, n] _ 5 [2, at_ / 256, at_ % 256, n / 256, n % 256] rfl rfl HRa.out HRb.out HWo.out (by omega) (by omega) (by omega)).mono ?_)
       rintro e w7 ⟨g7, rfl, hw7, hg7, hb7⟩
       have HW7 := Lib.hid hw7
       have HB7 := Lib.hid (HBe.out.trans (hb7.mono HBe.out.size))
       have HG7 : Hid (w.heap.size ≤ g7) := Nat.le_trans HBe.out.size hg7
       clear hw7 hg7 hb7))
  go_ret2
  exact ⟨_, _, rfl, own_of_whole HW7.out HG7.out rfl (by decide), HB7.out⟩

set_option maxHeartbeats 1000000 in
theorem pbytes_3 (at_ n v an orr : Int) (bl wl : Nat) (ra rn co ob : Int) (BA WA : Option Addr) (bc wc : Nat) (w : World) (hw : Wide at_ n v an orr ra rn co ob) (hrt : rightP 3 at_ n v an orr bl wl ra rn co ob) :
    Calls Try.prog 15 #[.agg #[.int .i64 3, .int .i64 at_, .int .i64 n, .int .u16 v, .int .u16 an, .int .u16 orr, .slice BA bl bc, .slice WA wl wc, .int .i64 ra, .int .i64 rn, .int .i64 co, .int .i64 ob]] w fun e w' => ∃ C cap, e = .returned (.tuple #[.slice C 5 cap, .int .i64 0]) ∧ w'.ownsRow w.heap.size 5 1 (.slice C 5 cap) 5 ([3, at_ / 256, at_ % 256, n / 256, n % 256].map (Value.int .u8)) ∧ Below w.heap.size w w' := by
  have hrt0 := hrt
  obtain ⟨_, hpl, ⟨a0, a1⟩, ⟨r0, r1⟩, hfit⟩ := hrt0
  unfold plainP at hpl
  unfold fitsP at hfit
  have hm1 : kMostR 3 = 125 := rfl
  have hm2 : kMostW 3 = 0 := rfl
  have n0 : 0 ≤ n := by omega
  have n1 : n ≤ 65535 := by omega
  clear hpl hfit hm1 hm2
  have HWo : Hid (Words [at_, n]) := by intro x hx; simp only [List.mem_cons, List.not_mem_nil, or_false] at hx; rcases hx with h | h <;> omega
  have HRt := Lib.hid hrt
  have HWd := Lib.hid hw
  clear hrt hw
  go_enter Try.func15, Try.ntmps15
  go_wp2_with (first
    | (go_at_call 19
       refine (pright_yes 3 at_ n v an orr bl wl ra rn co ob BA WA bc wc _ HWd.out HRt.out).mono ?_
       rintro e w4 ⟨rfl, hb4⟩
       have HB4 : Hid (Below w.heap.size w w4) := ((Below.refl _ _).alloc (Nat.le_refl _) _).trans (hb4.mono (by simp))
       have hk4 : Below (w.heap.size + 1) (w.alloc (.cells #[.int .i64 3, .int .i64 at_, .int .i64 n, .int .u16 v, .int .u16 an, .int .u16 orr, .slice BA bl bc, .slice WA wl wc, .int .i64 ra, .int .i64 rn, .int .i64 co, .int .i64 ob] 30)) w4 := by
         rwa [show (w.alloc (.cells #[.int .i64 3, .int .i64 at_, .int .i64 n, .int .u16 v, .int .u16 an, .int .u16 orr, .slice BA bl bc, .slice WA wl wc, .int .i64 ra, .int .i64 rn, .int .i64 co, .int .i64 ob] 30)).heap.size = w.heap.size + 1 by simp] at hb4
       have hz4 : w.heap.size + 1 ≤ w4.heap.size := by have := hk4.size; simp at this; omega
       have HK4 := Lib.hid hk4
       obtain ⟨hc0, hc1, hc2, hc3, hc4, hc5, hc6, hc7, hc8, hc9, hc10, hc11⟩ := box12 _ _ _ _ _ _ _ _ _ _ _ _ _ w w4 hk4
       have hd0 : (w4.alloc (.cells #[.int .u8 3] 5)).cell? ⟨w.heap.size, 0, none⟩ = some (.int .i64 3) := (World.cell?_alloc_lt w4 _ ⟨w.heap.size, 0, none⟩ hz4).trans hc0
       have hd1 : (w4.alloc (.cells #[.int .u8 3] 5)).cell? ⟨w.heap.size, 1, none⟩ = some (.int .i64 at_) := (World.cell?_alloc_lt w4 _ ⟨w.heap.size, 1, none⟩ hz4).trans hc1
       have hd2 : (w4.alloc (.cells #[.int .u8 3] 5)).cell? ⟨w.heap.size, 2, none⟩ = some (.int .i64 n) := (World.cell?_alloc_lt w4 _ ⟨w.heap.size, 2, none⟩ hz4).trans hc2
       have HRa : Hid (Row .u8 ((w4.alloc (.cells #[.int .u8 3] 5)).alloc (.cells #[.int .i64 at_, .int .i64 n] 3)) ((w4.alloc (.cells #[.int .u8 3] 5)).alloc (.cells #[.int .i64 at_, .int .i64 n] 3)).heap.size (some ⟨w4.heap.size, 0, none⟩) 1 [3]) := built_ints .u8 w4 _ [3] _ ((Below.refl _ _).alloc (Nat.le_refl _) _)
       have HRb : Hid (Row .i64 ((w4.alloc (.cells #[.int .u8 3] 5)).alloc (.cells #[.int .i64 at_, .int .i64 n] 3)) ((w4.alloc (.cells #[.int .u8 3] 5)).alloc (.cells #[.int .i64 at_, .int .i64 n] 3)).heap.size (some ⟨w4.heap.size + 1, 0, none⟩) 2 [at_, n]) := by
         have h := built_ints .i64 (w4.alloc (.cells #[.int .u8 3] 5)) _ [at_, n] 3 (Below.refl _ _)
         rwa [show (w4.alloc (.cells #[.int .u8 3] 5)).heap.size = w4.heap.size + 1 by simp] at h
       have HBe : Hid (Below w.heap.size w ((w4.alloc (.cells #[.int .u8 3] 5)).alloc (.cells #[.int .i64 at_, .int .i64 n] 3))) := (HB4.out.alloc HB4.out.size _).alloc (by have := HB4.out.size; simp; omega) _
       clear hb4 hk4 hc1 hc2 hc3 hc4 hc5 hc6 hc7 hc8 hc9 hc10 hc11)
    | (go_at_call 28
       (with_reducible refine (pputI (some ⟨w4.heap.size, 0, none⟩) 1 1 [3] (some ⟨w4.heap.size + 1, 0, none⟩) 2 2 [at_, n] _ 5 [3, at_ / 256, at_ % 256, n / 256, n % 256] rfl rfl HRa.out HRb.out HWo.out (by omega) (by omega) (by omega)).mono ?_)
       rintro e w7 ⟨g7, rfl, hw7, hg7, hb7⟩
       have HW7 := Lib.hid hw7
       have HB7 := Lib.hid (HBe.out.trans (hb7.mono HBe.out.size))
       have HG7 : Hid (w.heap.size ≤ g7) := Nat.le_trans HBe.out.size hg7
       clear hw7 hg7 hb7))
  go_ret2
  exact ⟨_, _, rfl, own_of_whole HW7.out HG7.out rfl (by decide), HB7.out⟩

set_option maxHeartbeats 1000000 in
theorem pbytes_4 (at_ n v an orr : Int) (bl wl : Nat) (ra rn co ob : Int) (BA WA : Option Addr) (bc wc : Nat) (w : World) (hw : Wide at_ n v an orr ra rn co ob) (hrt : rightP 4 at_ n v an orr bl wl ra rn co ob) :
    Calls Try.prog 15 #[.agg #[.int .i64 4, .int .i64 at_, .int .i64 n, .int .u16 v, .int .u16 an, .int .u16 orr, .slice BA bl bc, .slice WA wl wc, .int .i64 ra, .int .i64 rn, .int .i64 co, .int .i64 ob]] w fun e w' => ∃ C cap, e = .returned (.tuple #[.slice C 5 cap, .int .i64 0]) ∧ w'.ownsRow w.heap.size 5 1 (.slice C 5 cap) 5 ([4, at_ / 256, at_ % 256, n / 256, n % 256].map (Value.int .u8)) ∧ Below w.heap.size w w' := by
  have hrt0 := hrt
  obtain ⟨_, hpl, ⟨a0, a1⟩, ⟨r0, r1⟩, hfit⟩ := hrt0
  unfold plainP at hpl
  unfold fitsP at hfit
  have hm1 : kMostR 4 = 125 := rfl
  have hm2 : kMostW 4 = 0 := rfl
  have n0 : 0 ≤ n := by omega
  have n1 : n ≤ 65535 := by omega
  clear hpl hfit hm1 hm2
  have HWo : Hid (Words [at_, n]) := by intro x hx; simp only [List.mem_cons, List.not_mem_nil, or_false] at hx; rcases hx with h | h <;> omega
  have HRt := Lib.hid hrt
  have HWd := Lib.hid hw
  clear hrt hw
  go_enter Try.func15, Try.ntmps15
  go_wp2_with (first
    | (go_at_call 19
       refine (pright_yes 4 at_ n v an orr bl wl ra rn co ob BA WA bc wc _ HWd.out HRt.out).mono ?_
       rintro e w4 ⟨rfl, hb4⟩
       have HB4 : Hid (Below w.heap.size w w4) := ((Below.refl _ _).alloc (Nat.le_refl _) _).trans (hb4.mono (by simp))
       have hk4 : Below (w.heap.size + 1) (w.alloc (.cells #[.int .i64 4, .int .i64 at_, .int .i64 n, .int .u16 v, .int .u16 an, .int .u16 orr, .slice BA bl bc, .slice WA wl wc, .int .i64 ra, .int .i64 rn, .int .i64 co, .int .i64 ob] 30)) w4 := by
         rwa [show (w.alloc (.cells #[.int .i64 4, .int .i64 at_, .int .i64 n, .int .u16 v, .int .u16 an, .int .u16 orr, .slice BA bl bc, .slice WA wl wc, .int .i64 ra, .int .i64 rn, .int .i64 co, .int .i64 ob] 30)).heap.size = w.heap.size + 1 by simp] at hb4
       have hz4 : w.heap.size + 1 ≤ w4.heap.size := by have := hk4.size; simp at this; omega
       have HK4 := Lib.hid hk4
       obtain ⟨hc0, hc1, hc2, hc3, hc4, hc5, hc6, hc7, hc8, hc9, hc10, hc11⟩ := box12 _ _ _ _ _ _ _ _ _ _ _ _ _ w w4 hk4
       have hd0 : (w4.alloc (.cells #[.int .u8 4] 5)).cell? ⟨w.heap.size, 0, none⟩ = some (.int .i64 4) := (World.cell?_alloc_lt w4 _ ⟨w.heap.size, 0, none⟩ hz4).trans hc0
       have hd1 : (w4.alloc (.cells #[.int .u8 4] 5)).cell? ⟨w.heap.size, 1, none⟩ = some (.int .i64 at_) := (World.cell?_alloc_lt w4 _ ⟨w.heap.size, 1, none⟩ hz4).trans hc1
       have hd2 : (w4.alloc (.cells #[.int .u8 4] 5)).cell? ⟨w.heap.size, 2, none⟩ = some (.int .i64 n) := (World.cell?_alloc_lt w4 _ ⟨w.heap.size, 2, none⟩ hz4).trans hc2
       have HRa : Hid (Row .u8 ((w4.alloc (.cells #[.int .u8 4] 5)).alloc (.cells #[.int .i64 at_, .int .i64 n] 3)) ((w4.alloc (.cells #[.int .u8 4] 5)).alloc (.cells #[.int .i64 at_, .int .i64 n] 3)).heap.size (some ⟨w4.heap.size, 0, none⟩) 1 [4]) := built_ints .u8 w4 _ [4] _ ((Below.refl _ _).alloc (Nat.le_refl _) _)
       have HRb : Hid (Row .i64 ((w4.alloc (.cells #[.int .u8 4] 5)).alloc (.cells #[.int .i64 at_, .int .i64 n] 3)) ((w4.alloc (.cells #[.int .u8 4] 5)).alloc (.cells #[.int .i64 at_, .int .i64 n] 3)).heap.size (some ⟨w4.heap.size + 1, 0, none⟩) 2 [at_, n]) := by
         have h := built_ints .i64 (w4.alloc (.cells #[.int .u8 4] 5)) _ [at_, n] 3 (Below.refl _ _)
         rwa [show (w4.alloc (.cells #[.int .u8 4] 5)).heap.size = w4.heap.size + 1 by simp] at h
       have HBe : Hid (Below w.heap.size w ((w4.alloc (.cells #[.int .u8 4] 5)).alloc (.cells #[.int .i64 at_, .int .i64 n] 3))) := (HB4.out.alloc HB4.out.size _).alloc (by have := HB4.out.size; simp; omega) _
       clear hb4 hk4 hc1 hc2 hc3 hc4 hc5 hc6 hc7 hc8 hc9 hc10 hc11)
    | (go_at_call 28
       (with_reducible refine (pputI (some ⟨w4.heap.size, 0, none⟩) 1 1 [4] (some ⟨w4.heap.size + 1, 0, none⟩) 2 2 [at_, n] _ 5 [4, at_ / 256, at_ % 256, n / 256, n % 256] rfl rfl HRa.out HRb.out HWo.out (by omega) (by omega) (by omega)).mono ?_)
       rintro e w7 ⟨g7, rfl, hw7, hg7, hb7⟩
       have HW7 := Lib.hid hw7
       have HB7 := Lib.hid (HBe.out.trans (hb7.mono HBe.out.size))
       have HG7 : Hid (w.heap.size ≤ g7) := Nat.le_trans HBe.out.size hg7
       clear hw7 hg7 hb7))
  go_ret2
  exact ⟨_, _, rfl, own_of_whole HW7.out HG7.out rfl (by decide), HB7.out⟩

set_option maxHeartbeats 1000000 in
theorem pbytes_5 (at_ n v an orr : Int) (bl wl : Nat) (ra rn co ob : Int) (BA WA : Option Addr) (bc wc : Nat) (w : World) (hw : Wide at_ n v an orr ra rn co ob) (hrt : rightP 5 at_ n v an orr bl wl ra rn co ob) :
    Calls Try.prog 15 #[.agg #[.int .i64 5, .int .i64 at_, .int .i64 n, .int .u16 v, .int .u16 an, .int .u16 orr, .slice BA bl bc, .slice WA wl wc, .int .i64 ra, .int .i64 rn, .int .i64 co, .int .i64 ob]] w fun e w' => ∃ C cap, e = .returned (.tuple #[.slice C 5 cap, .int .i64 0]) ∧ w'.ownsRow w.heap.size 5 1 (.slice C 5 cap) 5 ([5, at_ / 256, at_ % 256, (v * 65280) / 256, (v * 65280) % 256].map (Value.int .u8)) ∧ Below w.heap.size w w' := by
  have hrt0 := hrt
  obtain ⟨_, hpl, ⟨a0, a1⟩, ⟨r0, r1⟩, hfit⟩ := hrt0
  unfold plainP at hpl
  unfold fitsP at hfit
  have hm1 : kMostR 5 = 0 := rfl
  have hm2 : kMostW 5 = 1 := rfl
  have v0 := hw.v0
  have v1 : v ≤ 1 := by omega
  clear hpl hfit hm1 hm2
  have HWo : Hid (Words [at_, v * 65280]) := by intro x hx; simp only [List.mem_cons, List.not_mem_nil, or_false] at hx; rcases hx with h | h <;> omega
  have HRt := Lib.hid hrt
  have HWd := Lib.hid hw
  clear hrt hw
  go_enter Try.func15, Try.ntmps15
  go_wp2_with (first
    | (go_at_call 19
       refine (pright_yes 5 at_ n v an orr bl wl ra rn co ob BA WA bc wc _ HWd.out HRt.out).mono ?_
       rintro e w4 ⟨rfl, hb4⟩
       have HB4 : Hid (Below w.heap.size w w4) := ((Below.refl _ _).alloc (Nat.le_refl _) _).trans (hb4.mono (by simp))
       have hk4 : Below (w.heap.size + 1) (w.alloc (.cells #[.int .i64 5, .int .i64 at_, .int .i64 n, .int .u16 v, .int .u16 an, .int .u16 orr, .slice BA bl bc, .slice WA wl wc, .int .i64 ra, .int .i64 rn, .int .i64 co, .int .i64 ob] 30)) w4 := by
         rwa [show (w.alloc (.cells #[.int .i64 5, .int .i64 at_, .int .i64 n, .int .u16 v, .int .u16 an, .int .u16 orr, .slice BA bl bc, .slice WA wl wc, .int .i64 ra, .int .i64 rn, .int .i64 co, .int .i64 ob] 30)).heap.size = w.heap.size + 1 by simp] at hb4
       have hz4 : w.heap.size + 1 ≤ w4.heap.size := by have := hk4.size; simp at this; omega
       have HK4 := Lib.hid hk4
       obtain ⟨hc0, hc1, hc2, hc3, hc4, hc5, hc6, hc7, hc8, hc9, hc10, hc11⟩ := box12 _ _ _ _ _ _ _ _ _ _ _ _ _ w w4 hk4
       have hd0 : (w4.alloc (.cells #[.int .u8 5] 5)).cell? ⟨w.heap.size, 0, none⟩ = some (.int .i64 5) := (World.cell?_alloc_lt w4 _ ⟨w.heap.size, 0, none⟩ hz4).trans hc0
       have hd1 : (w4.alloc (.cells #[.int .u8 5] 5)).cell? ⟨w.heap.size, 1, none⟩ = some (.int .i64 at_) := (World.cell?_alloc_lt w4 _ ⟨w.heap.size, 1, none⟩ hz4).trans hc1
       have hd3 : (w4.alloc (.cells #[.int .u8 5] 5)).cell? ⟨w.heap.size, 3, none⟩ = some (.int .u16 v) := (World.cell?_alloc_lt w4 _ ⟨w.heap.size, 3, none⟩ hz4).trans hc3
       have HRa : Hid (Row .u8 ((w4.alloc (.cells #[.int .u8 5] 5)).alloc (.cells #[.int .i64 at_, .int .i64 (v * 65280)] 3)) ((w4.alloc (.cells #[.int .u8 5] 5)).alloc (.cells #[.int .i64 at_, .int .i64 (v * 65280)] 3)).heap.size (some ⟨w4.heap.size, 0, none⟩) 1 [5]) := built_ints .u8 w4 _ [5] _ ((Below.refl _ _).alloc (Nat.le_refl _) _)
       have HRb : Hid (Row .i64 ((w4.alloc (.cells #[.int .u8 5] 5)).alloc (.cells #[.int .i64 at_, .int .i64 (v * 65280)] 3)) ((w4.alloc (.cells #[.int .u8 5] 5)).alloc (.cells #[.int .i64 at_, .int .i64 (v * 65280)] 3)).heap.size (some ⟨w4.heap.size + 1, 0, none⟩) 2 [at_, v * 65280]) := by
         have h := built_ints .i64 (w4.alloc (.cells #[.int .u8 5] 5)) _ [at_, v * 65280] 3 (Below.refl _ _)
         rwa [show (w4.alloc (.cells #[.int .u8 5] 5)).heap.size = w4.heap.size + 1 by simp] at h
       have HBe : Hid (Below w.heap.size w ((w4.alloc (.cells #[.int .u8 5] 5)).alloc (.cells #[.int .i64 at_, .int .i64 (v * 65280)] 3))) := (HB4.out.alloc HB4.out.size _).alloc (by have := HB4.out.size; simp; omega) _
       clear hb4 hk4 hc1 hc2 hc3 hc4 hc5 hc6 hc7 hc8 hc9 hc10 hc11)
    | (go_at_call 28
       (with_reducible refine (pputI (some ⟨w4.heap.size, 0, none⟩) 1 1 [5] (some ⟨w4.heap.size + 1, 0, none⟩) 2 2 [at_, v * 65280] _ 5 [5, at_ / 256, at_ % 256, (v * 65280) / 256, (v * 65280) % 256] rfl rfl HRa.out HRb.out HWo.out (by omega) (by omega) (by omega)).mono ?_)
       rintro e w7 ⟨g7, rfl, hw7, hg7, hb7⟩
       have HW7 := Lib.hid hw7
       have HB7 := Lib.hid (HBe.out.trans (hb7.mono HBe.out.size))
       have HG7 : Hid (w.heap.size ≤ g7) := Nat.le_trans HBe.out.size hg7
       clear hw7 hg7 hb7))
  go_ret2
  exact ⟨_, _, rfl, own_of_whole HW7.out HG7.out rfl (by decide), HB7.out⟩

set_option maxHeartbeats 1000000 in
theorem pbytes_6 (at_ n v an orr : Int) (bl wl : Nat) (ra rn co ob : Int) (BA WA : Option Addr) (bc wc : Nat) (w : World) (hw : Wide at_ n v an orr ra rn co ob) (hrt : rightP 6 at_ n v an orr bl wl ra rn co ob) :
    Calls Try.prog 15 #[.agg #[.int .i64 6, .int .i64 at_, .int .i64 n, .int .u16 v, .int .u16 an, .int .u16 orr, .slice BA bl bc, .slice WA wl wc, .int .i64 ra, .int .i64 rn, .int .i64 co, .int .i64 ob]] w fun e w' => ∃ C cap, e = .returned (.tuple #[.slice C 5 cap, .int .i64 0]) ∧ w'.ownsRow w.heap.size 5 1 (.slice C 5 cap) 5 ([6, at_ / 256, at_ % 256, v / 256, v % 256].map (Value.int .u8)) ∧ Below w.heap.size w w' := by
  have hrt0 := hrt
  obtain ⟨_, hpl, ⟨a0, a1⟩, ⟨r0, r1⟩, hfit⟩ := hrt0
  unfold plainP at hpl
  unfold fitsP at hfit
  have hm1 : kMostR 6 = 0 := rfl
  have hm2 : kMostW 6 = 1 := rfl
  have v0 := hw.v0
  have v1 := hw.v1
  clear hpl hfit hm1 hm2
  have HWo : Hid (Words [at_, v]) := by intro x hx; simp only [List.mem_cons, List.not_mem_nil, or_false] at hx; rcases hx with h | h <;> omega
  have HRt := Lib.hid hrt
  have HWd := Lib.hid hw
  clear hrt hw
  go_enter Try.func15, Try.ntmps15
  go_wp2_with (first
    | (go_at_call 19
       refine (pright_yes 6 at_ n v an orr bl wl ra rn co ob BA WA bc wc _ HWd.out HRt.out).mono ?_
       rintro e w4 ⟨rfl, hb4⟩
       have HB4 : Hid (Below w.heap.size w w4) := ((Below.refl _ _).alloc (Nat.le_refl _) _).trans (hb4.mono (by simp))
       have hk4 : Below (w.heap.size + 1) (w.alloc (.cells #[.int .i64 6, .int .i64 at_, .int .i64 n, .int .u16 v, .int .u16 an, .int .u16 orr, .slice BA bl bc, .slice WA wl wc, .int .i64 ra, .int .i64 rn, .int .i64 co, .int .i64 ob] 30)) w4 := by
         rwa [show (w.alloc (.cells #[.int .i64 6, .int .i64 at_, .int .i64 n, .int .u16 v, .int .u16 an, .int .u16 orr, .slice BA bl bc, .slice WA wl wc, .int .i64 ra, .int .i64 rn, .int .i64 co, .int .i64 ob] 30)).heap.size = w.heap.size + 1 by simp] at hb4
       have hz4 : w.heap.size + 1 ≤ w4.heap.size := by have := hk4.size; simp at this; omega
       have HK4 := Lib.hid hk4
       obtain ⟨hc0, hc1, hc2, hc3, hc4, hc5, hc6, hc7, hc8, hc9, hc10, hc11⟩ := box12 _ _ _ _ _ _ _ _ _ _ _ _ _ w w4 hk4
       have hd0 : (w4.alloc (.cells #[.int .u8 6] 5)).cell? ⟨w.heap.size, 0, none⟩ = some (.int .i64 6) := (World.cell?_alloc_lt w4 _ ⟨w.heap.size, 0, none⟩ hz4).trans hc0
       have hd1 : (w4.alloc (.cells #[.int .u8 6] 5)).cell? ⟨w.heap.size, 1, none⟩ = some (.int .i64 at_) := (World.cell?_alloc_lt w4 _ ⟨w.heap.size, 1, none⟩ hz4).trans hc1
       have hd3 : (w4.alloc (.cells #[.int .u8 6] 5)).cell? ⟨w.heap.size, 3, none⟩ = some (.int .u16 v) := (World.cell?_alloc_lt w4 _ ⟨w.heap.size, 3, none⟩ hz4).trans hc3
       have HRa : Hid (Row .u8 ((w4.alloc (.cells #[.int .u8 6] 5)).alloc (.cells #[.int .i64 at_, .int .i64 v] 3)) ((w4.alloc (.cells #[.int .u8 6] 5)).alloc (.cells #[.int .i64 at_, .int .i64 v] 3)).heap.size (some ⟨w4.heap.size, 0, none⟩) 1 [6]) := built_ints .u8 w4 _ [6] _ ((Below.refl _ _).alloc (Nat.le_refl _) _)
       have HRb : Hid (Row .i64 ((w4.alloc (.cells #[.int .u8 6] 5)).alloc (.cells #[.int .i64 at_, .int .i64 v] 3)) ((w4.alloc (.cells #[.int .u8 6] 5)).alloc (.cells #[.int .i64 at_, .int .i64 v] 3)).heap.size (some ⟨w4.heap.size + 1, 0, none⟩) 2 [at_, v]) := by
         have h := built_ints .i64 (w4.alloc (.cells #[.int .u8 6] 5)) _ [at_, v] 3 (Below.refl _ _)
         rwa [show (w4.alloc (.cells #[.int .u8 6] 5)).heap.size = w4.heap.size + 1 by simp] at h
       have HBe : Hid (Below w.heap.size w ((w4.alloc (.cells #[.int .u8 6] 5)).alloc (.cells #[.int .i64 at_, .int .i64 v] 3))) := (HB4.out.alloc HB4.out.size _).alloc (by have := HB4.out.size; simp; omega) _
       clear hb4 hk4 hc1 hc2 hc3 hc4 hc5 hc6 hc7 hc8 hc9 hc10 hc11)
    | (go_at_call 28
       (with_reducible refine (pputI (some ⟨w4.heap.size, 0, none⟩) 1 1 [6] (some ⟨w4.heap.size + 1, 0, none⟩) 2 2 [at_, v] _ 5 [6, at_ / 256, at_ % 256, v / 256, v % 256] rfl rfl HRa.out HRb.out HWo.out (by omega) (by omega) (by omega)).mono ?_)
       rintro e w7 ⟨g7, rfl, hw7, hg7, hb7⟩
       have HW7 := Lib.hid hw7
       have HB7 := Lib.hid (HBe.out.trans (hb7.mono HBe.out.size))
       have HG7 : Hid (w.heap.size ≤ g7) := Nat.le_trans HBe.out.size hg7
       clear hw7 hg7 hb7))
  go_ret2
  exact ⟨_, _, rfl, own_of_whole HW7.out HG7.out rfl (by decide), HB7.out⟩

set_option maxHeartbeats 1000000 in
theorem pbytes_15 (at_ v an orr : Int) (bl wl : Nat) (ra rn co ob : Int) (BA WA : Option Addr) (bc wc : Nat) (w : World) (hw : Wide at_ (bl : Int) v an orr ra rn co ob) (hrt : rightP 15 at_ (bl : Int) v an orr bl wl ra rn co ob) (bs : List Bool) (hbs : BRow w w.heap.size BA bl bs) :
    Calls Try.prog 15 #[.agg #[.int .i64 15, .int .i64 at_, .int .i64 (bl : Int), .int .u16 v, .int .u16 an, .int .u16 orr, .slice BA bl bc, .slice WA wl wc, .int .i64 ra, .int .i64 rn, .int .i64 co, .int .i64 ob]] w fun e w' => ∃ C cap, e = .returned (.tuple #[.slice C (6 + nb bl) cap, .int .i64 0]) ∧ w'.ownsRow w.heap.size 5 1 (.slice C (6 + nb bl) cap) (6 + nb bl) (([15, at_ / 256, at_ % 256, (bl : Int) / 256, (bl : Int) % 256, ((nb bl : Nat) : Int)] ++ pk bs bl).map (Value.int .u8)) ∧ Below w.heap.size w w' := by
  have hrt0 := hrt
  obtain ⟨_, hpl, ⟨a0, a1⟩, ⟨r0, r1⟩, hfit⟩ := hrt0
  unfold plainP at hpl
  unfold fitsP at hfit
  have hm1 : kMostR 15 = 0 := rfl
  have hm2 : kMostW 15 = 1968 := rfl
  have n2 : bl ≤ 1968 := by omega
  have n0 : 0 ≤ (bl : Int) := by omega
  have n1 : (bl : Int) ≤ 65535 := by omega
  clear hpl hfit hm1 hm2
  have hnb : nb bl ≤ 246 := by unfold nb; omega
  have HBS := Lib.hid hbs
  clear hbs
  have HWo : Hid (Words [at_, (bl : Int)]) := by intro x hx; simp only [List.mem_cons, List.not_mem_nil, or_false] at hx; rcases hx with h | h <;> omega
  have HRt := Lib.hid hrt
  have HWd := Lib.hid hw
  clear hrt hw
  go_enter Try.func15, Try.ntmps15
  go_wp2_with (first
    | (go_at_call 19
       refine (pright_yes 15 at_ (bl : Int) v an orr bl wl ra rn co ob BA WA bc wc _ HWd.out HRt.out).mono ?_
       rintro e w4 ⟨rfl, hb4⟩
       have HB4 : Hid (Below w.heap.size w w4) := ((Below.refl _ _).alloc (Nat.le_refl _) _).trans (hb4.mono (by simp))
       have hk4 : Below (w.heap.size + 1) (w.alloc (.cells #[.int .i64 15, .int .i64 at_, .int .i64 (bl : Int), .int .u16 v, .int .u16 an, .int .u16 orr, .slice BA bl bc, .slice WA wl wc, .int .i64 ra, .int .i64 rn, .int .i64 co, .int .i64 ob] 30)) w4 := by
         rwa [show (w.alloc (.cells #[.int .i64 15, .int .i64 at_, .int .i64 (bl : Int), .int .u16 v, .int .u16 an, .int .u16 orr, .slice BA bl bc, .slice WA wl wc, .int .i64 ra, .int .i64 rn, .int .i64 co, .int .i64 ob] 30)).heap.size = w.heap.size + 1 by simp] at hb4
       have hz4 : w.heap.size + 1 ≤ w4.heap.size := by have := hk4.size; simp at this; omega
       have HK4 := Lib.hid hk4
       obtain ⟨hc0, hc1, hc2, hc3, hc4, hc5, hc6, hc7, hc8, hc9, hc10, hc11⟩ := box12 _ _ _ _ _ _ _ _ _ _ _ _ _ w w4 hk4
       have hd0 : (w4.alloc (.cells #[.int .u8 15] 5)).cell? ⟨w.heap.size, 0, none⟩ = some (.int .i64 15) := (World.cell?_alloc_lt w4 _ ⟨w.heap.size, 0, none⟩ hz4).trans hc0
       clear hb4 hk4 hc1 hc2 hc3 hc4 hc5 hc6 hc7 hc8 hc9 hc10 hc11))
  obtain ⟨w5, hw5⟩ : ∃ w5, w4.alloc (.cells #[.int .u8 15] 5) = w5 := ⟨_, rfl⟩
  have hb5 : Below w4.heap.size w4 w5 := by rw [← hw5]; exact (Below.refl _ _).alloc (Nat.le_refl _) _
  have HB5 : Hid (Below w.heap.size w w5) := HB4.out.trans (hb5.mono HB4.out.size)
  have HK5 := Lib.hid (HK4.out.trans (hb5.mono hz4))
  have HZ5 : Hid (w.heap.size + 1 ≤ w5.heap.size) := Nat.le_trans hz4 hb5.size
  have HO5 : Hid (Row .u8 w5 w5.heap.size (some ⟨w4.heap.size, 0, none⟩) 1 [15]) := by rw [← hw5]; exact built_ints .u8 w4 _ [15] _ (Below.refl _ _)
  have KS : Hid (∀ W, Below w5.heap.size w5 W → W.cell? ⟨w.heap.size, 1, none⟩ = some (.int .i64 at_) ∧ W.cell? ⟨w.heap.size, 2, none⟩ = some (.int .i64 (bl : Int)) ∧ W.cell? ⟨w.heap.size, 6, none⟩ = some (.slice BA bl bc) ∧ Below w5.heap.size w5 W) := by
    intro W hb
    obtain ⟨_, hc1, hc2, hc3, hc4, hc5, hc6, hc7, hc8, hc9, hc10, hc11⟩ := box12 _ _ _ _ _ _ _ _ _ _ _ _ _ w W (HK5.out.trans (hb.mono HZ5.out))
    exact ⟨hc1, hc2, hc6, hb⟩
  have KB : Hid (∀ W, (W.cell? ⟨w.heap.size, 1, none⟩ = some (.int .i64 at_) ∧ W.cell? ⟨w.heap.size, 2, none⟩ = some (.int .i64 (bl : Int)) ∧ W.cell? ⟨w.heap.size, 6, none⟩ = some (.slice BA bl bc) ∧ Below w5.heap.size w5 W) → Below w5.heap.size w5 W) := fun W hs => hs.2.2.2
  have KT : Hid (∀ W W', (W.cell? ⟨w.heap.size, 1, none⟩ = some (.int .i64 at_) ∧ W.cell? ⟨w.heap.size, 2, none⟩ = some (.int .i64 (bl : Int)) ∧ W.cell? ⟨w.heap.size, 6, none⟩ = some (.slice BA bl bc) ∧ Below w5.heap.size w5 W) → Below W.heap.size W W' → W'.cell? ⟨w.heap.size, 1, none⟩ = some (.int .i64 at_) ∧ W'.cell? ⟨w.heap.size, 2, none⟩ = some (.int .i64 (bl : Int)) ∧ W'.cell? ⟨w.heap.size, 6, none⟩ = some (.slice BA bl bc) ∧ Below w5.heap.size w5 W') := fun W W' hs hb => KS.out _ ((KB.out _ hs).trans (hb.mono (KB.out _ hs).size))
  rw [hw5]
  clear hw5 hb5
  go_region_held3 (fun W => W.cell? ⟨w.heap.size, 1, none⟩ = some (.int .i64 at_) ∧ W.cell? ⟨w.heap.size, 2, none⟩ = some (.int .i64 (bl : Int)) ∧ W.cell? ⟨w.heap.size, 6, none⟩ = some (.slice BA bl bc) ∧ Below w5.heap.size w5 W)
    (first
      | exact KS.out _ (Below.refl _ _).drew
      | exact KT.out _ _ (by assumption) hb7
      | exact KT.out _ _ (by assumption) hb6
      | exact KT.out _ _ (by assumption) ((Below.refl _ _).alloc (Nat.le_refl _) _)
      | assumption
      | exact KS.out _ ((KB.out _ (by assumption)).trans (hb8.mono hq6)))
    (first
      | (go_at_call 28
         (with_reducible refine (pputI (some ⟨w4.heap.size, 0, none⟩) 1 1 [15] _ 2 2 [at_, (bl : Int)] _ 5 [15, at_ / 256, at_ % 256, (bl : Int) / 256, (bl : Int) % 256] rfl rfl ?_ ?_ HWo.out (by omega) (by omega) (by omega)).mono ?_)
         · exact (HO5.out.below (KB.out _ (by assumption))).more (KB.out _ (by assumption)).size
         · first
             | exact built_ints .i64 _ _ [at_, (bl : Int)] _ (Below.refl _ _).drew
             | exact built_ints .i64 _ _ [at_, (bl : Int)] _ (Below.refl _ _)
             | exact built_ints .i64 _ _ [at_, (bl : Int)] _ hb7
             | exact built_ints .i64 _ _ [at_, (bl : Int)] _ (below_from (d := 1) hb7)
         have hz6 := (KB.out _ (by assumption)).size
         rintro e w6 ⟨g6, rfl, hw6, hg6, hb6⟩
         have hq6 := Nat.le_trans hz6 hg6)
      | (go_at_call 30
         refine (pack_any BA bl bc bs _ ((HBS.out.below (HB5.out.trans ((KB.out _ (by assumption)).mono HB5.out.size))).more (HB5.out.trans ((KB.out _ (by assumption)).mono HB5.out.size)).size) (by omega)).mono ?_
         rintro e w7 ⟨rfl, hw7, hb7⟩
         have hr7 := hw7.row
         rw [pk_length, HBS.out.1] at hr7
         have hl7 := hw7.lt)
      | (go_at_call 29
         (with_reducible refine (pputlist_any g6 5 5 [15, at_ / 256, at_ % 256, (bl : Int) / 256, (bl : Int) % 256] _ (nb bl) (nb bl) (pk bs bl) _ ?_ ?_ ?_ ?_ (by omega) (by omega)).mono ?_)
         · first
             | exact own_of_whole hw6 (Nat.le_refl _) rfl (by decide)
             | exact own_keep (own_of_whole hw6 (Nat.le_refl _) rfl (by decide)) hb7
         · first
             | exact hr7
             | exact (hr7.below hb6).more hb6.size
             | exact (hr7.below (((Below.refl _ _).alloc (Nat.le_refl _) _).trans (hb6.mono (by simp)))).more (by have := hb6.size; simp at this; omega)
         · first
             | exact hw6.lt
             | exact Nat.lt_of_lt_of_le hw6.lt hb7.size
         · first
             | (intro ad h; injection h with h; subst h; exact Nat.ne_of_gt hw6.lt)
             | (intro ad h; injection h with h; subst h; exact Nat.ne_of_lt (Nat.lt_of_lt_of_le hl7 hg6))
             | (intro ad h; injection h with h; subst h; exact Nat.ne_of_lt (Nat.lt_of_lt_of_le (Nat.lt_of_lt_of_le hl7 (by simp)) hg6))
         rintro e w8 ⟨C8, c8, rfl, hr8, hb8⟩))
  all_goals
    go_wp2
    go_ret2
    have hk8 := KB.out _ (by assumption)
    refine ⟨_, _, rfl, ?_, HB5.out.trans (hk8.mono HB5.out.size)⟩
    have e : [15, at_ / 256, at_ % 256, (bl : Int) / 256, (bl : Int) % 256] ++ [((nb bl : Nat) : Int)] ++ pk bs bl = [15, at_ / 256, at_ % 256, (bl : Int) / 256, (bl : Int) % 256, ((nb bl : Nat) : Int)] ++ pk bs bl := rfl
    rw [e] at hr8
    exact own_mono hr8 (Nat.le_trans HB5.out.size hq6)

set_option maxHeartbeats 1000000 in
theorem pbytes_16 (at_ v an orr : Int) (bl wl : Nat) (ra rn co ob : Int) (BA WA : Option Addr) (bc wc : Nat) (w : World) (hw : Wide at_ (wl : Int) v an orr ra rn co ob) (hrt : rightP 16 at_ (wl : Int) v an orr bl wl ra rn co ob) (ws : List Int) (hws : Row .u16 w w.heap.size WA wl ws) (hxw : Words ws) :
    Calls Try.prog 15 #[.agg #[.int .i64 16, .int .i64 at_, .int .i64 (wl : Int), .int .u16 v, .int .u16 an, .int .u16 orr, .slice BA bl bc, .slice WA wl wc, .int .i64 ra, .int .i64 rn, .int .i64 co, .int .i64 ob]] w fun e w' => ∃ C cap, e = .returned (.tuple #[.slice C (6 + 2 * wl) cap, .int .i64 0]) ∧ w'.ownsRow w.heap.size 5 1 (.slice C (6 + 2 * wl) cap) (6 + 2 * wl) (([16, at_ / 256, at_ % 256, (wl : Int) / 256, (wl : Int) % 256, 2 * (wl : Int)] ++ flat ws).map (Value.int .u8)) ∧ Below w.heap.size w w' := by
  have hrt0 := hrt
  obtain ⟨_, hpl, ⟨a0, a1⟩, ⟨r0, r1⟩, hfit⟩ := hrt0
  unfold plainP at hpl
  unfold fitsP at hfit
  have hm1 : kMostR 16 = 0 := rfl
  have hm2 : kMostW 16 = 123 := rfl
  have n2 : wl ≤ 123 := by omega
  have n0 : 0 ≤ (wl : Int) := by omega
  have n1 : (wl : Int) ≤ 65535 := by omega
  clear hpl hfit hm1 hm2
  have HWS := Lib.hid hws
  have HXW := Lib.hid hxw
  clear hws hxw
  have HWo : Hid (Words [at_, (wl : Int)]) := by intro x hx; simp only [List.mem_cons, List.not_mem_nil, or_false] at hx; rcases hx with h | h <;> omega
  have HRt := Lib.hid hrt
  have HWd := Lib.hid hw
  clear hrt hw
  go_enter Try.func15, Try.ntmps15
  go_wp2_with (first
    | (go_at_call 19
       refine (pright_yes 16 at_ (wl : Int) v an orr bl wl ra rn co ob BA WA bc wc _ HWd.out HRt.out).mono ?_
       rintro e w4 ⟨rfl, hb4⟩
       have HB4 : Hid (Below w.heap.size w w4) := ((Below.refl _ _).alloc (Nat.le_refl _) _).trans (hb4.mono (by simp))
       have hk4 : Below (w.heap.size + 1) (w.alloc (.cells #[.int .i64 16, .int .i64 at_, .int .i64 (wl : Int), .int .u16 v, .int .u16 an, .int .u16 orr, .slice BA bl bc, .slice WA wl wc, .int .i64 ra, .int .i64 rn, .int .i64 co, .int .i64 ob] 30)) w4 := by
         rwa [show (w.alloc (.cells #[.int .i64 16, .int .i64 at_, .int .i64 (wl : Int), .int .u16 v, .int .u16 an, .int .u16 orr, .slice BA bl bc, .slice WA wl wc, .int .i64 ra, .int .i64 rn, .int .i64 co, .int .i64 ob] 30)).heap.size = w.heap.size + 1 by simp] at hb4
       have hz4 : w.heap.size + 1 ≤ w4.heap.size := by have := hk4.size; simp at this; omega
       have HK4 := Lib.hid hk4
       obtain ⟨hc0, hc1, hc2, hc3, hc4, hc5, hc6, hc7, hc8, hc9, hc10, hc11⟩ := box12 _ _ _ _ _ _ _ _ _ _ _ _ _ w w4 hk4
       have hd0 : (w4.alloc (.cells #[.int .u8 16] 5)).cell? ⟨w.heap.size, 0, none⟩ = some (.int .i64 16) := (World.cell?_alloc_lt w4 _ ⟨w.heap.size, 0, none⟩ hz4).trans hc0
       clear hb4 hk4 hc1 hc2 hc3 hc4 hc5 hc6 hc7 hc8 hc9 hc10 hc11))
  obtain ⟨w5, hw5⟩ : ∃ w5, w4.alloc (.cells #[.int .u8 16] 5) = w5 := ⟨_, rfl⟩
  have hb5 : Below w4.heap.size w4 w5 := by rw [← hw5]; exact (Below.refl _ _).alloc (Nat.le_refl _) _
  have HB5 : Hid (Below w.heap.size w w5) := HB4.out.trans (hb5.mono HB4.out.size)
  have HK5 := Lib.hid (HK4.out.trans (hb5.mono hz4))
  have HZ5 : Hid (w.heap.size + 1 ≤ w5.heap.size) := Nat.le_trans hz4 hb5.size
  have HO5 : Hid (Row .u8 w5 w5.heap.size (some ⟨w4.heap.size, 0, none⟩) 1 [16]) := by rw [← hw5]; exact built_ints .u8 w4 _ [16] _ (Below.refl _ _)
  have KS : Hid (∀ W, Below w5.heap.size w5 W → W.cell? ⟨w.heap.size, 1, none⟩ = some (.int .i64 at_) ∧ W.cell? ⟨w.heap.size, 2, none⟩ = some (.int .i64 (wl : Int)) ∧ W.cell? ⟨w.heap.size, 7, none⟩ = some (.slice WA wl wc) ∧ Below w5.heap.size w5 W) := by
    intro W hb
    obtain ⟨_, hc1, hc2, hc3, hc4, hc5, hc6, hc7, hc8, hc9, hc10, hc11⟩ := box12 _ _ _ _ _ _ _ _ _ _ _ _ _ w W (HK5.out.trans (hb.mono HZ5.out))
    exact ⟨hc1, hc2, hc7, hb⟩
  have KB : Hid (∀ W, (W.cell? ⟨w.heap.size, 1, none⟩ = some (.int .i64 at_) ∧ W.cell? ⟨w.heap.size, 2, none⟩ = some (.int .i64 (wl : Int)) ∧ W.cell? ⟨w.heap.size, 7, none⟩ = some (.slice WA wl wc) ∧ Below w5.heap.size w5 W) → Below w5.heap.size w5 W) := fun W hs => hs.2.2.2
  have KT : Hid (∀ W W', (W.cell? ⟨w.heap.size, 1, none⟩ = some (.int .i64 at_) ∧ W.cell? ⟨w.heap.size, 2, none⟩ = some (.int .i64 (wl : Int)) ∧ W.cell? ⟨w.heap.size, 7, none⟩ = some (.slice WA wl wc) ∧ Below w5.heap.size w5 W) → Below W.heap.size W W' → W'.cell? ⟨w.heap.size, 1, none⟩ = some (.int .i64 at_) ∧ W'.cell? ⟨w.heap.size, 2, none⟩ = some (.int .i64 (wl : Int)) ∧ W'.cell? ⟨w.heap.size, 7, none⟩ = some (.slice WA wl wc) ∧ Below w5.heap.size w5 W') := fun W W' hs hb => KS.out _ ((KB.out _ hs).trans (hb.mono (KB.out _ hs).size))
  rw [hw5]
  clear hw5 hb5
  go_region_held3 (fun W => W.cell? ⟨w.heap.size, 1, none⟩ = some (.int .i64 at_) ∧ W.cell? ⟨w.heap.size, 2, none⟩ = some (.int .i64 (wl : Int)) ∧ W.cell? ⟨w.heap.size, 7, none⟩ = some (.slice WA wl wc) ∧ Below w5.heap.size w5 W)
    (first
      | exact KS.out _ (Below.refl _ _).drew
      | exact KT.out _ _ (by assumption) hb7
      | exact KT.out _ _ (by assumption) hb6
      | exact KT.out _ _ (by assumption) ((Below.refl _ _).alloc (Nat.le_refl _) _)
      | assumption
      | exact KS.out _ ((KB.out _ (by assumption)).trans (hb8.mono hq6)))
    (first
      | (go_at_call 28
         (with_reducible refine (pputI (some ⟨w4.heap.size, 0, none⟩) 1 1 [16] _ 2 2 [at_, (wl : Int)] _ 5 [16, at_ / 256, at_ % 256, (wl : Int) / 256, (wl : Int) % 256] rfl rfl ?_ ?_ HWo.out (by omega) (by omega) (by omega)).mono ?_)
         · exact (HO5.out.below (KB.out _ (by assumption))).more (KB.out _ (by assumption)).size
         · first
             | exact built_ints .i64 _ _ [at_, (wl : Int)] _ (Below.refl _ _).drew
             | exact built_ints .i64 _ _ [at_, (wl : Int)] _ (Below.refl _ _)
             | exact built_ints .i64 _ _ [at_, (wl : Int)] _ hb7
             | exact built_ints .i64 _ _ [at_, (wl : Int)] _ (below_from (d := 1) hb7)
         have hz6 := (KB.out _ (by assumption)).size
         rintro e w6 ⟨g6, rfl, hw6, hg6, hb6⟩
         have hq6 := Nat.le_trans hz6 hg6)
      | (go_at_call 31
         refine (ppacked_any WA wl wc ws _ ((HWS.out.below (HB5.out.trans ((KB.out _ (by assumption)).mono HB5.out.size))).more (HB5.out.trans ((KB.out _ (by assumption)).mono HB5.out.size)).size) HXW.out (by omega)).mono ?_
         rintro e w7 ⟨C7, c7, rfl, hr7, hf7, hb7⟩
         have hl7 : ∀ ad : Addr, C7 = some ad → 2 * wl = 0 ∨ ad.block < w7.heap.size := by
           intro ad h
           rcases Nat.eq_zero_or_pos (2 * wl) with h0 | h0
           · exact .inl h0
           · obtain ⟨b, off, e, hb, _⟩ := hr7.2 h0
             rw [h] at e
             injection e with e
             subst e
             exact .inr hb)
      | (go_at_call 29
         (with_reducible refine (pputlist_any g6 5 5 [16, at_ / 256, at_ % 256, (wl : Int) / 256, (wl : Int) % 256] _ (2 * wl) c7 (flat ws) _ ?_ ?_ ?_ ?_ (by omega) (by omega)).mono ?_)
         · first
             | exact own_of_whole hw6 (Nat.le_refl _) rfl (by decide)
             | exact own_keep (own_of_whole hw6 (Nat.le_refl _) rfl (by decide)) hb7
         · first
             | exact hr7
             | exact (hr7.below hb6).more hb6.size
             | exact (hr7.below (((Below.refl _ _).alloc (Nat.le_refl _) _).trans (hb6.mono (by simp)))).more (by have := hb6.size; simp at this; omega)
         · first
             | exact hw6.lt
             | exact Nat.lt_of_lt_of_le hw6.lt hb7.size
         · first
             | (intro ad h; have := hf7 ad h; have := hw6.lt; omega)
             | (intro ad h; have := hl7 ad h; omega)
             | (intro ad h; have := hl7 ad h; simp at hg6; omega)
         rintro e w8 ⟨C8, c8, rfl, hr8, hb8⟩))
  all_goals
    go_wp2
    go_ret2
    have hk8 := KB.out _ (by assumption)
    refine ⟨_, _, rfl, ?_, HB5.out.trans (hk8.mono HB5.out.size)⟩
    have e : [16, at_ / 256, at_ % 256, (wl : Int) / 256, (wl : Int) % 256] ++ [((2 * wl : Nat) : Int)] ++ flat ws = [16, at_ / 256, at_ % 256, (wl : Int) / 256, (wl : Int) % 256, 2 * (wl : Int)] ++ flat ws := by rw [show ((2 * wl : Nat) : Int) = 2 * (wl : Int) by omega]; rfl
    rw [e] at hr8
    exact own_mono hr8 (Nat.le_trans HB5.out.size hq6)

set_option maxHeartbeats 1000000 in
theorem pbytes_22 (at_ n v an orr : Int) (bl wl : Nat) (ra rn co ob : Int) (BA WA : Option Addr) (bc wc : Nat) (w : World) (hw : Wide at_ n v an orr ra rn co ob) (hrt : rightP 22 at_ n v an orr bl wl ra rn co ob) :
    Calls Try.prog 15 #[.agg #[.int .i64 22, .int .i64 at_, .int .i64 n, .int .u16 v, .int .u16 an, .int .u16 orr, .slice BA bl bc, .slice WA wl wc, .int .i64 ra, .int .i64 rn, .int .i64 co, .int .i64 ob]] w fun e w' => ∃ C cap, e = .returned (.tuple #[.slice C 7 cap, .int .i64 0]) ∧ w'.ownsRow w.heap.size 5 1 (.slice C 7 cap) 7 ([22, at_ / 256, at_ % 256, an / 256, an % 256, orr / 256, orr % 256].map (Value.int .u8)) ∧ Below w.heap.size w w' := by
  have hrt0 := hrt
  obtain ⟨_, hpl, ⟨a0, a1⟩, ⟨r0, r1⟩, hfit⟩ := hrt0
  unfold plainP at hpl
  unfold fitsP at hfit
  have hm1 : kMostR 22 = 0 := rfl
  have hm2 : kMostW 22 = 1 := rfl
  have x0 := hw.x0
  have x1 := hw.x1
  have o0 := hw.o0
  have o1 := hw.o1
  clear hpl hfit hm1 hm2
  have HWo : Hid (Words [at_, an, orr]) := by intro x hx; simp only [List.mem_cons, List.not_mem_nil, or_false] at hx; rcases hx with h | h | h <;> omega
  have HRt := Lib.hid hrt
  have HWd := Lib.hid hw
  clear hrt hw
  go_enter Try.func15, Try.ntmps15
  go_wp2_with (first
    | (go_at_call 19
       refine (pright_yes 22 at_ n v an orr bl wl ra rn co ob BA WA bc wc _ HWd.out HRt.out).mono ?_
       rintro e w4 ⟨rfl, hb4⟩
       have HB4 : Hid (Below w.heap.size w w4) := ((Below.refl _ _).alloc (Nat.le_refl _) _).trans (hb4.mono (by simp))
       have hk4 : Below (w.heap.size + 1) (w.alloc (.cells #[.int .i64 22, .int .i64 at_, .int .i64 n, .int .u16 v, .int .u16 an, .int .u16 orr, .slice BA bl bc, .slice WA wl wc, .int .i64 ra, .int .i64 rn, .int .i64 co, .int .i64 ob] 30)) w4 := by
         rwa [show (w.alloc (.cells #[.int .i64 22, .int .i64 at_, .int .i64 n, .int .u16 v, .int .u16 an, .int .u16 orr, .slice BA bl bc, .slice WA wl wc, .int .i64 ra, .int .i64 rn, .int .i64 co, .int .i64 ob] 30)).heap.size = w.heap.size + 1 by simp] at hb4
       have hz4 : w.heap.size + 1 ≤ w4.heap.size := by have := hk4.size; simp at this; omega
       have HK4 := Lib.hid hk4
       obtain ⟨hc0, hc1, hc2, hc3, hc4, hc5, hc6, hc7, hc8, hc9, hc10, hc11⟩ := box12 _ _ _ _ _ _ _ _ _ _ _ _ _ w w4 hk4
       have hd0 : (w4.alloc (.cells #[.int .u8 22] 5)).cell? ⟨w.heap.size, 0, none⟩ = some (.int .i64 22) := (World.cell?_alloc_lt w4 _ ⟨w.heap.size, 0, none⟩ hz4).trans hc0
       have hd1 : (w4.alloc (.cells #[.int .u8 22] 5)).cell? ⟨w.heap.size, 1, none⟩ = some (.int .i64 at_) := (World.cell?_alloc_lt w4 _ ⟨w.heap.size, 1, none⟩ hz4).trans hc1
       have hd4 : (w4.alloc (.cells #[.int .u8 22] 5)).cell? ⟨w.heap.size, 4, none⟩ = some (.int .u16 an) := (World.cell?_alloc_lt w4 _ ⟨w.heap.size, 4, none⟩ hz4).trans hc4
       have hd5 : (w4.alloc (.cells #[.int .u8 22] 5)).cell? ⟨w.heap.size, 5, none⟩ = some (.int .u16 orr) := (World.cell?_alloc_lt w4 _ ⟨w.heap.size, 5, none⟩ hz4).trans hc5
       have HRa : Hid (Row .u8 ((w4.alloc (.cells #[.int .u8 22] 5)).alloc (.cells #[.int .i64 at_, .int .i64 an, .int .i64 orr] 3)) ((w4.alloc (.cells #[.int .u8 22] 5)).alloc (.cells #[.int .i64 at_, .int .i64 an, .int .i64 orr] 3)).heap.size (some ⟨w4.heap.size, 0, none⟩) 1 [22]) := built_ints .u8 w4 _ [22] _ ((Below.refl _ _).alloc (Nat.le_refl _) _)
       have HRb : Hid (Row .i64 ((w4.alloc (.cells #[.int .u8 22] 5)).alloc (.cells #[.int .i64 at_, .int .i64 an, .int .i64 orr] 3)) ((w4.alloc (.cells #[.int .u8 22] 5)).alloc (.cells #[.int .i64 at_, .int .i64 an, .int .i64 orr] 3)).heap.size (some ⟨w4.heap.size + 1, 0, none⟩) 3 [at_, an, orr]) := by
         have h := built_ints .i64 (w4.alloc (.cells #[.int .u8 22] 5)) _ [at_, an, orr] 3 (Below.refl _ _)
         rwa [show (w4.alloc (.cells #[.int .u8 22] 5)).heap.size = w4.heap.size + 1 by simp] at h
       have HBe : Hid (Below w.heap.size w ((w4.alloc (.cells #[.int .u8 22] 5)).alloc (.cells #[.int .i64 at_, .int .i64 an, .int .i64 orr] 3))) := (HB4.out.alloc HB4.out.size _).alloc (by have := HB4.out.size; simp; omega) _
       clear hb4 hk4 hc1 hc2 hc3 hc4 hc5 hc6 hc7 hc8 hc9 hc10 hc11)
    | (go_at_call 28
       (with_reducible refine (pputI (some ⟨w4.heap.size, 0, none⟩) 1 1 [22] (some ⟨w4.heap.size + 1, 0, none⟩) 3 3 [at_, an, orr] _ 7 [22, at_ / 256, at_ % 256, an / 256, an % 256, orr / 256, orr % 256] rfl rfl HRa.out HRb.out HWo.out (by omega) (by omega) (by omega)).mono ?_)
       rintro e w7 ⟨g7, rfl, hw7, hg7, hb7⟩
       have HW7 := Lib.hid hw7
       have HB7 := Lib.hid (HBe.out.trans (hb7.mono HBe.out.size))
       have HG7 : Hid (w.heap.size ≤ g7) := Nat.le_trans HBe.out.size hg7
       clear hw7 hg7 hb7))
  go_ret2
  exact ⟨_, _, rfl, own_of_whole HW7.out HG7.out rfl (by decide), HB7.out⟩

set_option maxHeartbeats 1000000 in
theorem pbytes_23 (at_ v an orr : Int) (bl wl : Nat) (ra rn co ob : Int) (BA WA : Option Addr) (bc wc : Nat) (w : World) (hw : Wide at_ (wl : Int) v an orr ra rn co ob) (hrt : rightP 23 at_ (wl : Int) v an orr bl wl ra rn co ob) (ws : List Int) (hws : Row .u16 w w.heap.size WA wl ws) (hxw : Words ws) :
    Calls Try.prog 15 #[.agg #[.int .i64 23, .int .i64 at_, .int .i64 (wl : Int), .int .u16 v, .int .u16 an, .int .u16 orr, .slice BA bl bc, .slice WA wl wc, .int .i64 ra, .int .i64 rn, .int .i64 co, .int .i64 ob]] w fun e w' => ∃ C cap, e = .returned (.tuple #[.slice C (10 + 2 * wl) cap, .int .i64 0]) ∧ w'.ownsRow w.heap.size 5 1 (.slice C (10 + 2 * wl) cap) (10 + 2 * wl) (([23, ra / 256, ra % 256, rn / 256, rn % 256, at_ / 256, at_ % 256, (wl : Int) / 256, (wl : Int) % 256, 2 * (wl : Int)] ++ flat ws).map (Value.int .u8)) ∧ Below w.heap.size w w' := by
  have hrt0 := hrt
  obtain ⟨_, hpl, ⟨a0, a1⟩, ⟨r0, r1⟩, hfit⟩ := hrt0
  unfold plainP at hpl
  unfold fitsP at hfit
  have hm1 : kMostR 23 = 125 := rfl
  have hm2 : kMostW 23 = 121 := rfl
  have n2 : wl ≤ 121 := by omega
  have n0 : 0 ≤ (wl : Int) := by omega
  have n1 : (wl : Int) ≤ 65535 := by omega
  have q0 : 0 ≤ rn := by omega
  have q1 : rn ≤ 65535 := by omega
  clear hpl hfit hm1 hm2
  have HWS := Lib.hid hws
  have HXW := Lib.hid hxw
  clear hws hxw
  have HWo : Hid (Words [at_, (wl : Int)]) := by intro x hx; simp only [List.mem_cons, List.not_mem_nil, or_false] at hx; rcases hx with h | h <;> omega
  have HWp : Hid (Words [ra, rn]) := by intro x hx; simp only [List.mem_cons, List.not_mem_nil, or_false] at hx; rcases hx with h | h <;> omega
  have HRt := Lib.hid hrt
  have HWd := Lib.hid hw
  clear hrt hw
  go_enter Try.func15, Try.ntmps15
  go_wp2_with (first
    | (go_at_call 19
       refine (pright_yes 23 at_ (wl : Int) v an orr bl wl ra rn co ob BA WA bc wc _ HWd.out HRt.out).mono ?_
       rintro e w4 ⟨rfl, hb4⟩
       have HB4 : Hid (Below w.heap.size w w4) := ((Below.refl _ _).alloc (Nat.le_refl _) _).trans (hb4.mono (by simp))
       have hk4 : Below (w.heap.size + 1) (w.alloc (.cells #[.int .i64 23, .int .i64 at_, .int .i64 (wl : Int), .int .u16 v, .int .u16 an, .int .u16 orr, .slice BA bl bc, .slice WA wl wc, .int .i64 ra, .int .i64 rn, .int .i64 co, .int .i64 ob] 30)) w4 := by
         rwa [show (w.alloc (.cells #[.int .i64 23, .int .i64 at_, .int .i64 (wl : Int), .int .u16 v, .int .u16 an, .int .u16 orr, .slice BA bl bc, .slice WA wl wc, .int .i64 ra, .int .i64 rn, .int .i64 co, .int .i64 ob] 30)).heap.size = w.heap.size + 1 by simp] at hb4
       have hz4 : w.heap.size + 1 ≤ w4.heap.size := by have := hk4.size; simp at this; omega
       have HK4 := Lib.hid hk4
       obtain ⟨hc0, hc1, hc2, hc3, hc4, hc5, hc6, hc7, hc8, hc9, hc10, hc11⟩ := box12 _ _ _ _ _ _ _ _ _ _ _ _ _ w w4 hk4
       have hd0 : (w4.alloc (.cells #[.int .u8 23] 5)).cell? ⟨w.heap.size, 0, none⟩ = some (.int .i64 23) := (World.cell?_alloc_lt w4 _ ⟨w.heap.size, 0, none⟩ hz4).trans hc0
       have hd8 : (w4.alloc (.cells #[.int .u8 23] 5)).cell? ⟨w.heap.size, 8, none⟩ = some (.int .i64 ra) := (World.cell?_alloc_lt w4 _ ⟨w.heap.size, 8, none⟩ hz4).trans hc8
       have hd9 : (w4.alloc (.cells #[.int .u8 23] 5)).cell? ⟨w.heap.size, 9, none⟩ = some (.int .i64 rn) := (World.cell?_alloc_lt w4 _ ⟨w.heap.size, 9, none⟩ hz4).trans hc9
       have HRa : Hid (Row .u8 ((w4.alloc (.cells #[.int .u8 23] 5)).alloc (.cells #[.int .i64 ra, .int .i64 rn] 3)) ((w4.alloc (.cells #[.int .u8 23] 5)).alloc (.cells #[.int .i64 ra, .int .i64 rn] 3)).heap.size (some ⟨w4.heap.size, 0, none⟩) 1 [23]) := built_ints .u8 w4 _ [23] _ ((Below.refl _ _).alloc (Nat.le_refl _) _)
       have HRb : Hid (Row .i64 ((w4.alloc (.cells #[.int .u8 23] 5)).alloc (.cells #[.int .i64 ra, .int .i64 rn] 3)) ((w4.alloc (.cells #[.int .u8 23] 5)).alloc (.cells #[.int .i64 ra, .int .i64 rn] 3)).heap.size (some ⟨w4.heap.size + 1, 0, none⟩) 2 [ra, rn]) := by
         have h := built_ints .i64 (w4.alloc (.cells #[.int .u8 23] 5)) _ [ra, rn] 3 (Below.refl _ _)
         rwa [show (w4.alloc (.cells #[.int .u8 23] 5)).heap.size = w4.heap.size + 1 by simp] at h
       have HBe : Hid (Below w4.heap.size w4 ((w4.alloc (.cells #[.int .u8 23] 5)).alloc (.cells #[.int .i64 ra, .int .i64 rn] 3))) := ((Below.refl _ _).alloc (Nat.le_refl _) _).alloc (by simp) _
       clear hb4 hk4 hc1 hc2 hc3 hc4 hc5 hc6 hc7 hc8 hc9 hc10 hc11)
    | (go_at_call 28
       (with_reducible refine (pputI (some ⟨w4.heap.size, 0, none⟩) 1 1 [23] (some ⟨w4.heap.size + 1, 0, none⟩) 2 2 [ra, rn] _ 5 [23, ra / 256, ra % 256, rn / 256, rn % 256] rfl rfl HRa.out HRb.out HWp.out (by omega) (by omega) (by omega)).mono ?_)
       rintro e w5 ⟨g5, rfl, hw5, hg5, hb5⟩
       have HW5 := Lib.hid hw5
       have HC5 := Lib.hid (HBe.out.trans (hb5.mono HBe.out.size))
       clear hw5 hg5 hb5))
  have HB5 : Hid (Below w.heap.size w w5) := HB4.out.trans (HC5.out.mono HB4.out.size)
  have HK5 := Lib.hid (HK4.out.trans (HC5.out.mono hz4))
  have HZ5 : Hid (w.heap.size + 1 ≤ w5.heap.size) := Nat.le_trans hz4 HC5.out.size
  have HO5 : Hid (Row .u8 w5 w5.heap.size (some ⟨g5, 0, none⟩) 5 [23, ra / 256, ra % 256, rn / 256, rn % 256]) := HW5.out.row
  have KS : Hid (∀ W, Below w5.heap.size w5 W → W.cell? ⟨w.heap.size, 1, none⟩ = some (.int .i64 at_) ∧ W.cell? ⟨w.heap.size, 2, none⟩ = some (.int .i64 (wl : Int)) ∧ W.cell? ⟨w.heap.size, 7, none⟩ = some (.slice WA wl wc) ∧ Below w5.heap.size w5 W) := by
    intro W hb
    obtain ⟨_, hc1, hc2, hc3, hc4, hc5, hc6, hc7, hc8, hc9, hc10, hc11⟩ := box12 _ _ _ _ _ _ _ _ _ _ _ _ _ w W (HK5.out.trans (hb.mono HZ5.out))
    exact ⟨hc1, hc2, hc7, hb⟩
  have KB : Hid (∀ W, (W.cell? ⟨w.heap.size, 1, none⟩ = some (.int .i64 at_) ∧ W.cell? ⟨w.heap.size, 2, none⟩ = some (.int .i64 (wl : Int)) ∧ W.cell? ⟨w.heap.size, 7, none⟩ = some (.slice WA wl wc) ∧ Below w5.heap.size w5 W) → Below w5.heap.size w5 W) := fun W hs => hs.2.2.2
  have KT : Hid (∀ W W', (W.cell? ⟨w.heap.size, 1, none⟩ = some (.int .i64 at_) ∧ W.cell? ⟨w.heap.size, 2, none⟩ = some (.int .i64 (wl : Int)) ∧ W.cell? ⟨w.heap.size, 7, none⟩ = some (.slice WA wl wc) ∧ Below w5.heap.size w5 W) → Below W.heap.size W W' → W'.cell? ⟨w.heap.size, 1, none⟩ = some (.int .i64 at_) ∧ W'.cell? ⟨w.heap.size, 2, none⟩ = some (.int .i64 (wl : Int)) ∧ W'.cell? ⟨w.heap.size, 7, none⟩ = some (.slice WA wl wc) ∧ Below w5.heap.size w5 W') := fun W W' hs hb => KS.out _ ((KB.out _ hs).trans (hb.mono (KB.out _ hs).size))
  go_region_held3 (fun W => W.cell? ⟨w.heap.size, 1, none⟩ = some (.int .i64 at_) ∧ W.cell? ⟨w.heap.size, 2, none⟩ = some (.int .i64 (wl : Int)) ∧ W.cell? ⟨w.heap.size, 7, none⟩ = some (.slice WA wl wc) ∧ Below w5.heap.size w5 W)
    (first
      | exact KS.out _ (Below.refl _ _).drew
      | exact KT.out _ _ (by assumption) hb7
      | exact KT.out _ _ (by assumption) hb6
      | exact KT.out _ _ (by assumption) ((Below.refl _ _).alloc (Nat.le_refl _) _)
      | assumption
      | exact KS.out _ ((KB.out _ (by assumption)).trans (hb8.mono hq6)))
    (first
      | (go_at_call 28
         (with_reducible refine (pputI (some ⟨g5, 0, none⟩) 5 5 [23, ra / 256, ra % 256, rn / 256, rn % 256] _ 2 2 [at_, (wl : Int)] _ 9 [23, ra / 256, ra % 256, rn / 256, rn % 256, at_ / 256, at_ % 256, (wl : Int) / 256, (wl : Int) % 256] rfl rfl ?_ ?_ HWo.out (by omega) (by omega) (by omega)).mono ?_)
         · exact (HO5.out.below (KB.out _ (by assumption))).more (KB.out _ (by assumption)).size
         · first
             | exact built_ints .i64 _ _ [at_, (wl : Int)] _ (Below.refl _ _).drew
             | exact built_ints .i64 _ _ [at_, (wl : Int)] _ (Below.refl _ _)
             | exact built_ints .i64 _ _ [at_, (wl : Int)] _ hb7
             | exact built_ints .i64 _ _ [at_, (wl : Int)] _ (below_from (d := 1) hb7)
         have hz6 := (KB.out _ (by assumption)).size
         rintro e w6 ⟨g6, rfl, hw6, hg6, hb6⟩
         have hq6 := Nat.le_trans hz6 hg6)
      | (go_at_call 31
         refine (ppacked_any WA wl wc ws _ ((HWS.out.below (HB5.out.trans ((KB.out _ (by assumption)).mono HB5.out.size))).more (HB5.out.trans ((KB.out _ (by assumption)).mono HB5.out.size)).size) HXW.out (by omega)).mono ?_
         rintro e w7 ⟨C7, c7, rfl, hr7, hf7, hb7⟩
         have hl7 : ∀ ad : Addr, C7 = some ad → 2 * wl = 0 ∨ ad.block < w7.heap.size := by
           intro ad h
           rcases Nat.eq_zero_or_pos (2 * wl) with h0 | h0
           · exact .inl h0
           · obtain ⟨b, off, e, hb, _⟩ := hr7.2 h0
             rw [h] at e
             injection e with e
             subst e
             exact .inr hb)
      | (go_at_call 29
         (with_reducible refine (pputlist_any g6 9 9 [23, ra / 256, ra % 256, rn / 256, rn % 256, at_ / 256, at_ % 256, (wl : Int) / 256, (wl : Int) % 256] _ (2 * wl) c7 (flat ws) _ ?_ ?_ ?_ ?_ (by omega) (by omega)).mono ?_)
         · first
             | exact own_of_whole hw6 (Nat.le_refl _) rfl (by decide)
             | exact own_keep (own_of_whole hw6 (Nat.le_refl _) rfl (by decide)) hb7
         · first
             | exact hr7
             | exact (hr7.below hb6).more hb6.size
             | exact (hr7.below (((Below.refl _ _).alloc (Nat.le_refl _) _).trans (hb6.mono (by simp)))).more (by have := hb6.size; simp at this; omega)
         · first
             | exact hw6.lt
             | exact Nat.lt_of_lt_of_le hw6.lt hb7.size
         · first
             | (intro ad h; have := hf7 ad h; have := hw6.lt; omega)
             | (intro ad h; have := hl7 ad h; omega)
             | (intro ad h; have := hl7 ad h; simp at hg6; omega)
         rintro e w8 ⟨C8, c8, rfl, hr8, hb8⟩))
  all_goals
    go_wp2
    go_ret2
    have hk8 := KB.out _ (by assumption)
    refine ⟨_, _, rfl, ?_, HB5.out.trans (hk8.mono HB5.out.size)⟩
    have e : [23, ra / 256, ra % 256, rn / 256, rn % 256, at_ / 256, at_ % 256, (wl : Int) / 256, (wl : Int) % 256] ++ [((2 * wl : Nat) : Int)] ++ flat ws = [23, ra / 256, ra % 256, rn / 256, rn % 256, at_ / 256, at_ % 256, (wl : Int) / 256, (wl : Int) % 256, 2 * (wl : Int)] ++ flat ws := by rw [show ((2 * wl : Nat) : Int) = 2 * (wl : Int) by omega]; rfl
    rw [e] at hr8
    exact own_mono hr8 (Nat.le_trans HB5.out.size hq6)

set_option maxHeartbeats 1000000 in
theorem pbytes_43 (at_ n v an orr : Int) (bl wl : Nat) (ra rn co ob : Int) (BA WA : Option Addr) (bc wc : Nat) (w : World) (hw : Wide at_ n v an orr ra rn co ob) (hrt : rightP 43 at_ n v an orr bl wl ra rn co ob) :
    Calls Try.prog 15 #[.agg #[.int .i64 43, .int .i64 at_, .int .i64 n, .int .u16 v, .int .u16 an, .int .u16 orr, .slice BA bl bc, .slice WA wl wc, .int .i64 ra, .int .i64 rn, .int .i64 co, .int .i64 ob]] w fun e w' => ∃ C cap, e = .returned (.tuple #[.slice C 4 cap, .int .i64 0]) ∧ w'.ownsRow w.heap.size 5 1 (.slice C 4 cap) 4 ([43, 14, co, ob].map (Value.int .u8)) ∧ Below w.heap.size w w' := by
  have hrt0 := hrt
  obtain ⟨_, hpl, ⟨a0, a1⟩, ⟨r0, r1⟩, hfit⟩ := hrt0
  unfold plainP at hpl
  unfold fitsP at hfit
  have hm1 : kMostR 43 = 0 := rfl
  have hm2 : kMostW 43 = 0 := rfl
  have c0 : 0 ≤ co := by omega
  have c1 : co ≤ 4 := by omega
  have o0 : 0 ≤ ob := by omega
  have o1 : ob ≤ 255 := by omega
  clear hpl hfit hm1 hm2
  have wc1 : IntKind.u8.wrap co = co := IntWalk.u8_in _ (by omega)
  have wc2 : IntKind.u8.wrap ob = ob := IntWalk.u8_in _ (by omega)
  have HRt := Lib.hid hrt
  have HWd := Lib.hid hw
  clear hrt hw
  go_enter Try.func15, Try.ntmps15
  go_wp2_with (first
    | (go_at_call 19
       refine (pright_yes 43 at_ n v an orr bl wl ra rn co ob BA WA bc wc _ HWd.out HRt.out).mono ?_
       rintro e w4 ⟨rfl, hb4⟩
       have HB4 : Hid (Below w.heap.size w w4) := ((Below.refl _ _).alloc (Nat.le_refl _) _).trans (hb4.mono (by simp))
       have hk4 : Below (w.heap.size + 1) (w.alloc (.cells #[.int .i64 43, .int .i64 at_, .int .i64 n, .int .u16 v, .int .u16 an, .int .u16 orr, .slice BA bl bc, .slice WA wl wc, .int .i64 ra, .int .i64 rn, .int .i64 co, .int .i64 ob] 30)) w4 := by
         rwa [show (w.alloc (.cells #[.int .i64 43, .int .i64 at_, .int .i64 n, .int .u16 v, .int .u16 an, .int .u16 orr, .slice BA bl bc, .slice WA wl wc, .int .i64 ra, .int .i64 rn, .int .i64 co, .int .i64 ob] 30)).heap.size = w.heap.size + 1 by simp] at hb4
       have hz4 : w.heap.size + 1 ≤ w4.heap.size := by have := hk4.size; simp at this; omega
       have HK4 := Lib.hid hk4
       obtain ⟨hc0, hc1, hc2, hc3, hc4, hc5, hc6, hc7, hc8, hc9, hc10, hc11⟩ := box12 _ _ _ _ _ _ _ _ _ _ _ _ _ w w4 hk4
       have hd0 : (w4.alloc (.cells #[.int .u8 43] 5)).cell? ⟨w.heap.size, 0, none⟩ = some (.int .i64 43) := (World.cell?_alloc_lt w4 _ ⟨w.heap.size, 0, none⟩ hz4).trans hc0
       have hd10 : (w4.alloc (.cells #[.int .u8 43] 5)).cell? ⟨w.heap.size, 10, none⟩ = some (.int .i64 co) := (World.cell?_alloc_lt w4 _ ⟨w.heap.size, 10, none⟩ hz4).trans hc10
       have hd11 : (w4.alloc (.cells #[.int .u8 43] 5)).cell? ⟨w.heap.size, 11, none⟩ = some (.int .i64 ob) := (World.cell?_alloc_lt w4 _ ⟨w.heap.size, 11, none⟩ hz4).trans hc11
       have HO5 : Hid (((w4.alloc (.cells #[.int .u8 43] 5)).alloc (.cells #[.int .u8 14, .int .u8 co, .int .u8 ob] 5)).ownsRow w.heap.size 5 1 (.slice (some ⟨w4.heap.size, 0, none⟩) 1 1) 1 [.int .u8 43]) := (own_of_whole (n := 1) (show WholeV (w4.alloc (.cells #[.int .u8 43] 5)) w4.heap.size 5 [.int .u8 43] from heap_alloc_new w4 _) HB4.out.size rfl (by omega)).alloc _
       have HRb : Hid (RowV ((w4.alloc (.cells #[.int .u8 43] 5)).alloc (.cells #[.int .u8 14, .int .u8 co, .int .u8 ob] 5)) ((w4.alloc (.cells #[.int .u8 43] 5)).alloc (.cells #[.int .u8 14, .int .u8 co, .int .u8 ob] 5)).heap.size (some ⟨w4.heap.size + 1, 0, none⟩) 3 [.int .u8 14, .int .u8 co, .int .u8 ob]) := by
         have h := built_row (w4.alloc (.cells #[.int .u8 43] 5)) _ [.int .u8 14, .int .u8 co, .int .u8 ob] 5 (Below.refl _ _)
         rwa [show (w4.alloc (.cells #[.int .u8 43] 5)).heap.size = w4.heap.size + 1 by simp] at h
       have HBe : Hid (Below w.heap.size w ((w4.alloc (.cells #[.int .u8 43] 5)).alloc (.cells #[.int .u8 14, .int .u8 co, .int .u8 ob] 5))) := (HB4.out.alloc HB4.out.size _).alloc (by have := HB4.out.size; simp; omega) _
       clear hb4 hk4 hc1 hc2 hc3 hc4 hc5 hc6 hc7 hc8 hc9 hc10 hc11)
    | (at_builtin
       refine wpList_append_row _ (o := ⟨some 105, _, _, _, _, _⟩) rfl (.tmp 97) (.tmp 104) 22 rfl w.heap.size 5 (.int .u8 0) 1 Try.underlying22 info5 rfl (.slice (some ⟨w4.heap.size, 0, none⟩) 1 1) 1 _ rfl HO5.out _ (some ⟨w4.heap.size + 1, 0, none⟩) 3 3 _ rfl HRb.out (by simp [Value.oneCell']) (by omega) (by omega) HBe.out.size ?_
       intro v2 w2 hown hg hat
       obtain ⟨B2, d2, rfl⟩ := own_slice hown
       have HO2 := Lib.hid hown
       have HB2 := Lib.hid (below_append HBe.out HO5.out hg HBe.out.size)
       clear hown hg hat))
  go_ret2
  exact ⟨_, _, rfl, HO2.out, HB2.out⟩

theorem pbytes_yes (fn at_ n v an orr : Int) (bs : List Bool) (ws : List Int) (ra rn co ob : Int) (BA WA : Option Addr) (bl wl bc wc : Nat) (w : World) (hw : Wide at_ n v an orr ra rn co ob) (h : rightP fn at_ n v an orr bl wl ra rn co ob)
    (hbs : BRow w w.heap.size BA bl bs) (hws : Row .u16 w w.heap.size WA wl ws) (hxw : Words ws) :
    Calls Try.prog 15 #[.agg #[.int .i64 fn, .int .i64 at_, .int .i64 n, .int .u16 v, .int .u16 an, .int .u16 orr, .slice BA bl bc, .slice WA wl wc, .int .i64 ra, .int .i64 rn, .int .i64 co, .int .i64 ob]] w fun e w' => ∃ C cap, e = .returned (.tuple #[.slice C (enc fn at_ n v an orr bs ws ra rn co ob).length cap, .int .i64 0]) ∧ w'.ownsRow w.heap.size 5 1 (.slice C (enc fn at_ n v an orr bs ws ra rn co ob).length cap) (enc fn at_ n v an orr bs ws ra rn co ob).length ((enc fn at_ n v an orr bs ws ra rn co ob).map (Value.int .u8)) ∧ Below w.heap.size w w' := by
  have hk := h.1
  have hfit := h.2.2.2.2
  unfold fitsP at hfit
  rcases kinds fn with rfl | rfl | rfl | rfl | rfl | rfl | rfl | rfl | rfl | rfl | rfl | hno
  · exact pbytes_of (pbytes_1 at_ n v an orr bl wl ra rn co ob BA WA bc wc w hw h) rfl rfl
  · exact pbytes_of (pbytes_2 at_ n v an orr bl wl ra rn co ob BA WA bc wc w hw h) rfl rfl
  · exact pbytes_of (pbytes_3 at_ n v an orr bl wl ra rn co ob BA WA bc wc w hw h) rfl rfl
  · exact pbytes_of (pbytes_4 at_ n v an orr bl wl ra rn co ob BA WA bc wc w hw h) rfl rfl
  · exact pbytes_of (pbytes_5 at_ n v an orr bl wl ra rn co ob BA WA bc wc w hw h) rfl rfl
  · exact pbytes_of (pbytes_6 at_ n v an orr bl wl ra rn co ob BA WA bc wc w hw h) rfl rfl
  · obtain rfl : n = (bl : Int) := by omega
    have hl := hbs.1
    exact pbytes_of (pbytes_15 at_ v an orr bl wl ra rn co ob BA WA bc wc w hw h bs hbs) (by subst hl; rfl) (by subst hl; simp [enc, be, pk_length]; omega)
  · obtain rfl : n = (wl : Int) := by omega
    have hl := hws.1
    exact pbytes_of (pbytes_16 at_ v an orr bl wl ra rn co ob BA WA bc wc w hw h ws hws hxw) (by subst hl; rfl) (by subst hl; simp [enc, be, flat_length]; omega)
  · exact pbytes_of (pbytes_22 at_ n v an orr bl wl ra rn co ob BA WA bc wc w hw h) rfl rfl
  · obtain rfl : n = (wl : Int) := by omega
    have hl := hws.1
    exact pbytes_of (pbytes_23 at_ v an orr bl wl ra rn co ob BA WA bc wc w hw h ws hws hxw) (by subst hl; rfl) (by subst hl; simp [enc, be, flat_length]; omega)
  · exact pbytes_of (pbytes_43 at_ n v an orr bl wl ra rn co ob BA WA bc wc w hw h) rfl rfl
  · rw [hno.known] at hk; cases hk

end Go.Proofs.Ytebpilfogdenjaa

/- busbarlaw5.AskTells, case by case. -/
import Derived.Test.YtijfeffjjcbijaaLTells2
import Derived.Test.YtijfeffjjcbijaaJAskBack4
import Derived.Test.YtijfeffjjcbijaaJAskBack5
import Derived.Test.YtijfeffjjcbijaaWithin
namespace Go.Proofs.Ytijfeffjjcbijaa
open Go.ChangeShapes Go.WideShapes Go.ChangeAt Go.RowKit
set_option linter.unusedVariables false
set_option linter.unusedSimpArgs false

theorem ltells_any (fn at_ n v an orr : Int) (bs : List Bool) (ws : List Int) (ra rn co ob : Int) (BA WA : Option Addr) (bl wl bc wc : Nat) (w : World) (hwd : Wide at_ n v an orr ra rn co ob) (hbr : BRow w w.heap.size BA bl bs) (hwr : Row .u16 w w.heap.size WA wl ws) (hxw : Words ws) (hbl : bl ≤ 3000) (hwl : wl ≤ 3000) :
    Calls Try.prog 21 #[.agg #[.int .i64 fn, .int .i64 at_, .int .i64 n, .int .u16 v, .int .u16 an, .int .u16 orr, .slice BA bl bc, .slice WA wl wc, .int .i64 ra, .int .i64 rn, .int .i64 co, .int .i64 ob]] w fun e w' => e = .returned (.bool true) ∧ Below w.heap.size w w' := by
  by_cases hrt : rightP fn at_ n v an orr bl wl ra rn co ob
  · exact ltells_yes fn at_ n v an orr bs ws ra rn co ob BA WA bl wl bc wc w hwd hrt hbr hwr hxw hbl hwl
  · exact ltells_no fn at_ n v an orr bs ws ra rn co ob BA WA bl wl bc wc w hwd hrt hbr hwr hxw hbl hwl
theorem wbox12 (a0 a1 a2 a3 a4 a5 a6 a7 a8 a9 a10 a11 : Value) (T : TypeId) (w w' : World) (h : Below (w.heap.size + 1) (w.alloc (.cells #[a0, a1, a2, a3, a4, a5, a6, a7, a8, a9, a10, a11] T)) w') : WholeV w' w.heap.size T [a0, a1, a2, a3, a4, a5, a6, a7, a8, a9, a10, a11] := by
  have h1 : WholeV (w.alloc (.cells #[a0, a1, a2, a3, a4, a5, a6, a7, a8, a9, a10, a11] T)) w.heap.size T [a0, a1, a2, a3, a4, a5, a6, a7, a8, a9, a10, a11] := heap_alloc_new w _
  exact h1.below h (by omega)
theorem small_of {fn at_ n v an orr : Int} {bl wl : Nat} {ra rn co ob : Int} (h : rightP fn at_ n v an orr bl wl ra rn co ob) : bl ≤ 2000 ∧ wl ≤ 2000 := by
  obtain ⟨hk, hpl, _, _, hfit⟩ := h
  unfold plainP at hpl
  unfold fitsP at hfit
  have m15 : kMostW 15 = 1968 := rfl
  have m16 : kMostW 16 = 123 := rfl
  have m23 : kMostW 23 = 121 := rfl
  refine ⟨?_, ?_⟩
  · by_cases h15 : fn = 15
    · rw [h15] at hfit; omega
    · omega
  · by_cases h16 : fn = 16
    · rw [h16] at hfit; omega
    · by_cases h23 : fn = 23
      · rw [h23] at hfit; omega
      · omega
theorem codes_of {fn at_ n v an orr : Int} {bl wl : Nat} {ra rn co ob : Int} (h : rightP fn at_ n v an orr bl wl ra rn co ob) : 0 ≤ co ∧ co ≤ 4 ∧ 0 ≤ ob ∧ ob ≤ 255 := by
  obtain ⟨hk, hpl, _, _, hfit⟩ := h
  unfold plainP at hpl
  unfold fitsP at hfit
  by_cases h43 : fn = 43
  · omega
  · omega
theorem own_lt {w : World} {b : Nat} {e : TypeId} {v : Value} {n : Nat} {xs : List Value} (h : w.ownsRow b e 1 v n xs) {g : Nat} (hg : v.ownBlock = some g) : g < w.heap.size := by
  rcases h.2 with ⟨rfl, _⟩ | ⟨g', cap, cur, rfl, _, hh, _⟩
  · simp [Value.ownBlock] at hg
  · simp [Value.ownBlock] at hg
    subst hg
    exact (Array.getElem?_eq_some_iff.1 hh).1
theorem own_grown {w w' : World} {b : Nat} {e e' : TypeId} {v v' : Value} {n n' : Nat} {xs xs' : List Value} (h : w.ownsRow b e 1 v n xs) (h' : w.ownsRow b e' 1 v' n' xs') (hne : e ≠ e') (hg : w.grownBy w' v.ownBlock) : w'.ownsRow b e' 1 v' n' xs' := by
  refine ⟨h'.1, ?_⟩
  rcases h'.2 with h0 | ⟨g', cap', cur', rfl, hb', hh', rest⟩
  · exact .inl h0
  · refine .inr ⟨g', cap', cur', rfl, hb', ?_, rest⟩
    rw [hg.block g' (Array.getElem?_eq_some_iff.1 hh').1 ?_]
    · exact hh'
    · intro he
      rcases h.2 with ⟨rfl, _⟩ | ⟨g, cap, cur, rfl, _, hh, _⟩
      · simp [Value.ownBlock] at he
      · simp [Value.ownBlock] at he
        subst he
        rw [hh] at hh'
        injection hh' with hh'
        injection hh' with h1 h2
        exact hne h2
theorem own_set {w : World} {b : Nat} {e : TypeId} {v : Value} {n : Nat} {xs : List Value} (h : w.ownsRow b e 1 v n xs) (p : Addr) (u : Value) (hp : v.ownBlock ≠ some p.block) : (w.setCell p u).ownsRow b e 1 v n xs := by
  refine ⟨h.1, ?_⟩
  rcases h.2 with h0 | ⟨g, cap, cur, rfl, hb, hh, rest⟩
  · exact .inl h0
  · refine .inr ⟨g, cap, cur, rfl, hb, ?_, rest⟩
    have hq : p.block ≠ g := fun he => hp (by simp [Value.ownBlock, he])
    exact (show (w.setCell p u).heap[g]? = w.heap[g]? by unfold World.setCell; simp [Array.getElem?_modify, hq]).trans hh
theorem few_lit (fn at_ n v an orr : Int) (ra rn co ob : Int) (BA WA : Option Addr) (bl wl bc wc : Nat) (w : World) (b : Bool) (hb : decide (bl ≤ 2100 ∧ wl ≤ 200) = b) :
    Calls Try.prog 16 #[.agg #[.int .i64 fn, .int .i64 at_, .int .i64 n, .int .u16 v, .int .u16 an, .int .u16 orr, .slice BA bl bc, .slice WA wl wc, .int .i64 ra, .int .i64 rn, .int .i64 co, .int .i64 ob]] w fun e w' => e = .returned (.bool b) ∧ Below w.heap.size w w' := by
  have HB := Lib.hid hb
  clear hb
  by_cases h1 : (bl : Int) ≤ 2100
  · go_enter Try.func16, Try.ntmps16
    go_wp2
    go_ret
    refine ⟨ret_bool ?_, (Below.refl _ _).alloc (Nat.le_refl _) _⟩
    rw [← HB.out, Bool.eq_iff_iff]
    simp only [decide_eq_true_eq]
    omega
  · have hd : decide ((bl : Int) ≤ 2100) = false := by simpa using h1
    go_enter Try.func16, Try.ntmps16
    go_wp2
    go_ret
    refine ⟨ret_bool ?_, (Below.refl _ _).alloc (Nat.le_refl _) _⟩
    rw [← HB.out]
    simp only [Bool.false_eq, decide_eq_false_iff_not]
    omega

theorem atells_many (fn at_ n y an orr : Int) (bs : List Bool) (ws : List Int) (ra rn co ob : Int) (BA WA : Option Addr) (bl wl bc wc : Nat) (k v x m : Int) (w : World) (hwd : Wide at_ n y an orr ra rn co ob) (hbr : BRow w w.heap.size BA bl bs) (hwr : Row .u16 w w.heap.size WA wl ws) (hxw : Words ws) (k0 : -9223372036854775808 ≤ k) (k1 : k ≤ 9223372036854775807) (v0 : -9223372036854775808 ≤ v) (v1 : v ≤ 9223372036854775807) (x0 : -9223372036854775808 ≤ x) (x1 : x ≤ 9223372036854775807) (m0 : -9223372036854775808 ≤ m) (m1 : m ≤ 9223372036854775807) (hf : ¬ (bl ≤ 2100 ∧ wl ≤ 200)) :
    Calls Try.prog 3 #[.agg #[.int .i64 fn, .int .i64 at_, .int .i64 n, .int .u16 y, .int .u16 an, .int .u16 orr, .slice BA bl bc, .slice WA wl wc, .int .i64 ra, .int .i64 rn, .int .i64 co, .int .i64 ob], .int .i64 k, .int .i64 v, .int .i64 x, .int .i64 m] w fun e w' => e = .returned (.bool true) ∧ Below w.heap.size w w' := by
  have HF := Lib.hid (decide_eq_false hf)
  clear hf hwd hbr hwr hxw
  go_enter Try.func3, Try.ntmps3
  go_wp2_with (first
    | (go_at_call 16; refine (few_lit fn at_ n y an orr ra rn co ob BA WA bl wl bc wc _ false HF.out).mono ?_; rintro e w1 ⟨rfl, hb1⟩; have HB1 : Hid (Below w.heap.size w w1) := ((Below.refl _ _).alloc (Nat.le_refl _) _).trans (hb1.mono (by simp)); clear hb1)
    | (go_at_call 17; refine (awake_any _).mono ?_; rintro e w2 ⟨rfl, hb2⟩; have HB2 := Lib.hid hb2; clear hb2))
  go_ret
  exact ⟨rfl, HB1.out.trans (HB2.out.mono HB1.out.size)⟩

end Go.Proofs.Ytijfeffjjcbijaa

/- Package iden: room, filled. -/
import Derived.Test.YtoljpdamalcjeaaIden3
namespace Go.Proofs.Ytoljpdamalcjeaa
open Go.ChangeShapes Go.WideShapes Go.ChangeAt Go.RowKit
set_option linter.unusedVariables false
set_option linter.unusedSimpArgs false

theorem tell43 (co le nx : Int) (mo : Bool) (ol : Nat) (fo : Bool) (c1 : 1 ≤ co) (c4 : co ≤ 4) (l0 : 0 ≤ le) (l1 : le ≤ 255) (x0 : 0 ≤ nx) (x1 : nx ≤ 255) : decide (tellP 43 0 0 0 0 0 0 0 0 co le mo.toNat nx ol fo.toNat) = fo := by
  have hk : kKnown 43 = true := rfl
  cases fo
  · refine decide_eq_false fun h => ?_
    rcases h with ⟨_, _, _, h, _⟩ | ⟨h, _⟩
    · have := h.2.2.2.2
      rcases this with h | h
      · exact h rfl
      · have h2 : false.toNat = 1 := h.2.2.2
        cases h2
    · omega
  · refine decide_eq_true (.inl ⟨rfl, hk, by omega, ?_, ?_⟩)
    · refine ⟨.inl (by omega), .inl (by omega), .inl (by omega), .inl (by omega), .inr ⟨by omega, by omega, by omega, rfl⟩⟩
    · exact ⟨by omega, by omega, by omega, by omega, by omega, .inr ⟨rfl, rfl⟩, .inl rfl⟩

/-- A reply of 43 whose objects are these is right just if they fit. -/
theorem iright43 (co le nx : Int) (mo : Bool) (A : Option Addr) (n c : Nat) (os : List Ob) (W : World) (b : Bool) (c1 : 1 ≤ co) (c4 : co ≤ 4) (l0 : 0 ≤ le) (l1 : le ≤ 255) (x0 : 0 ≤ nx) (x1 : nx ≤ 255) (hl : OL W W.heap.size A n os) (hn : n ≤ 100000) (hz : ∀ o ∈ os, o.2.size ≤ 1000000) (hb : decide (fitP os) = b) :
    Calls Try.prog 30 #[.agg #[.int .i64 43, .int .i64 0, .slice none 0 0, .slice none 0 0, .int .i64 0, .int .i64 0, .int .u16 0, .int .u16 0, .int .u16 0, .int .i64 co, .int .i64 le, .bool mo, .int .i64 nx, .slice A n c]] W fun e w' => e = .returned (.bool b) ∧ Below W.heap.size W w' :=
  ptr_any 43 0 0 0 0 0 0 0 0 co le mo nx n none none A 0 0 c W b b ⟨by omega, by omega, by omega, by omega, by omega, by omega, by omega, by omega, by omega, by omega, by omega, by omega, by omega, by omega, by omega, by omega⟩ (fits_any A n c os W b hl hn hz hb) (tell43 co le nx mo n b c1 c4 l0 l1 x0 x1)

/-- How many objects fit. -/
def roomN (os : List Ob) : Nat := ((List.range os.length).takeWhile fun k => decide (fitP (os.take (k + 1)))).length

set_option maxHeartbeats 1000000 in
theorem iroom_any (co le : Int) (A : Option Addr) (n c : Nat) (os : List Ob) (m : Nat) (w : World) (c1 : 1 ≤ co) (c4 : co ≤ 4) (l0 : 0 ≤ le) (l1 : le ≤ 255) (hl : OL w w.heap.size A n os) (hn : n ≤ 100000) (hc : n ≤ c) (hz : ∀ o ∈ os, o.2.size ≤ 1000000) (hm : m ≤ n) (h : ∀ k, k < m → fitP (os.take (k + 1))) (h2 : m < n → ¬ fitP (os.take (m + 1))) :
    Calls Try.prog 125 #[.agg #[.int .i64 43, .int .i64 0, .slice none 0 0, .slice none 0 0, .int .i64 0, .int .i64 0, .int .u16 0, .int .u16 0, .int .u16 0, .int .i64 co, .int .i64 le, .bool false, .int .i64 0, .slice none 0 0], .slice A n c] w fun e w' => e = .returned (.int .i64 (m : Int)) ∧ Below w.heap.size w w' := by
  have HL := Lib.hid hl
  have H := Lib.hid h
  have H2 := Lib.hid h2
  have HZ := Lib.hid hz
  clear hl h h2 hz
  go_enter Try.func125, Try.ntmps125
  go_wp2
  go_loopw [8] (fun i wr => ∃ (k : Nat) (V : Value), k ≤ m ∧ i = .int .i64 (k : Int) ∧ Hid (WholeV wr w.heap.size 53 [.int .i64 43, .int .i64 0, .slice none 0 0, .slice none 0 0, .int .i64 0, .int .i64 0, .int .u16 0, .int .u16 0, .int .u16 0, .int .i64 co, .int .i64 le, .bool false, .int .i64 0, V]) ∧ Hid (Below w.heap.size w wr)) (fun i _ => n - (intOf i).toNat)
  case atStart => exact ⟨0, _, by omega, rfl, Lib.hid (heap_alloc_new w _), Lib.hid ((Below.refl _ _).alloc (Nat.le_refl _) _)⟩
  case round =>
    obtain ⟨k, V, hk, rfl, HBX, HB⟩ := hrel
    by_cases hlt : k < n
    · have hi : (k : Int) < (n : Int) := by omega
      obtain ⟨hc0, hc1, hc2, hc3, hc4, hc5, hc6, hc7, hc8, hc9, hc10, hc11, hc12, hc13⟩ := cells14 HBX.out
      have hfr := HBX.out.frozen 13
      have HB2 := Lib.hid (HB.out.setCell (p := ⟨w.heap.size, 13, none⟩) (Nat.le_refl _) (.slice A (k + 1) c))
      have HB3 := Lib.hid (HBX.out.set 13 (.slice A (k + 1) c))
      have HLT := Lib.hid ((HL.out.below HB2.out).take (k + 1) (by omega))
      have HZT : Hid (∀ o ∈ os.take (k + 1), o.2.size ≤ 1000000) := fun o ho => HZ.out o (List.mem_of_mem_take ho)
      by_cases hki : k < m
      · have HF := Lib.hid (decide_eq_true (H.out k hki))
        go_wp2_with (go_at_call 30; refine (iright43 co le 0 false A (k + 1) c (os.take (k + 1)) _ true c1 c4 l0 l1 (by omega) (by omega) HLT.out (by omega) HZT.out HF.out).mono ?_; rintro e w4 ⟨rfl, hb4⟩)
        go_roundw
        case rel =>
          refine ⟨k + 1, .slice A (k + 1) c, by omega, by go_num, Lib.hid (HB3.out.below hb4 ?_), Lib.hid (HB2.out.trans (hb4.mono ?_))⟩
          · exact HB3.out.lt
          · exact HB2.out.size
        case measure => simp [intOf]; omega
      · obtain rfl : m = k := by omega
        have HF := Lib.hid (decide_eq_false (H2.out hlt))
        go_wp2_with (go_at_call 30; refine (iright43 co le 0 false A (m + 1) c (os.take (m + 1)) _ false c1 c4 l0 l1 (by omega) (by omega) HLT.out (by omega) HZT.out HF.out).mono ?_; rintro e w4 ⟨rfl, hb4⟩)
        go_ret
        exact ⟨rfl, HB2.out.trans (hb4.mono HB2.out.size)⟩
    · obtain rfl : n = k := by omega
      obtain rfl : m = n := by omega
      go_wp2
      go_ret
      exact ⟨rfl, HB.out⟩

end Go.Proofs.Ytoljpdamalcjeaa

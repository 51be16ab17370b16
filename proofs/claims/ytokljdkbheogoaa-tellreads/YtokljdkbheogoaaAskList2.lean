/- The document's list, as a row of the call's own; rows of the call's own behind stores elsewhere. -/
import Derived.Test.YtokljdkbheogoaaAskList
namespace Go.Proofs.Ytokljdkbheogoaa
open Go.ChangeShapes Go.WideShapes Go.ChangeAt Go.RowKit
set_option linter.unusedVariables false
set_option linter.unusedSimpArgs false

/-- A store into an older block leaves a row of the call's own as it was. -/
theorem own_far {w : World} {b : Nat} {e : TypeId} {v : Value} {n : Nat} {xs : List Value} (h : w.ownsRow b e 1 v n xs) (p : Addr) (hp : p.block < b) (u : Value) : (w.setCell p u).ownsRow b e 1 v n xs := by
  refine ⟨h.1, ?_⟩
  rcases h.2 with h0 | ⟨g, cap, cur, hv, hg, hh, rest⟩
  · exact .inl h0
  · exact .inr ⟨g, cap, cur, hv, hg, (Below.heap_setCell _ _ _ _ (by omega)).trans hh, rest⟩

set_option maxHeartbeats 1000000 in
theorem rlist_own (A : Option Addr) (n c : Nat) (zs : List Int) (a m : Nat) (w : World) (hr : Row .u8 w w.heap.size A n zs) (hx : Bytes8 zs) (ha : a ≤ 100) (hm : m ≤ 1000) (h : n = a + 2 * m) :
    Calls Try.prog 76 #[.slice A n c, .int .i64 (a : Int), .int .i64 (m : Int)] w fun e w' => ∃ B d, e = .returned (.tuple #[.slice B m d, .bool true]) ∧ w'.ownsRow w.heap.size 28 1 (.slice B m d) m ((wordsAt zs a m).map (Value.int .u16)) ∧ Below w.heap.size w w' := by
  have HR := Lib.hid hr
  have HX := Lib.hid hx
  clear hr hx
  subst h
  go_enter Try.func76, Try.ntmps76
  go_wp2
  go_loopw [8, 9] (fun l i wr => ∃ (k : Nat) (B : Option Addr) (d : Nat), k ≤ m ∧ i = .int .i64 (k : Int) ∧ l = .slice B k d ∧ Hid (wr.ownsRow w.heap.size 28 1 (.slice B k d) k ((wordsAt zs a k).map (Value.int .u16))) ∧ Hid (Below w.heap.size w wr)) (fun _ i _ => m - (intOf i).toNat)
  case atStart => exact ⟨0, none, 0, by omega, rfl, rfl, own_none _ _ _, Below.refl _ _⟩
  case round =>
    obtain ⟨k, B, d, hk, rfl, rfl, HK, HB⟩ := hrel
    by_cases hlt : k < m
    · have hi : (k : Int) < (m : Int) := by omega
      have HR2 := Lib.hid ((HR.out.below HB.out).more HB.out.size)
      obtain ⟨z, hz⟩ : ∃ z, wordAt zs (a + 2 * k) = z := ⟨_, rfl⟩
      obtain ⟨z0, z1⟩ := wordAt_bounds HX.out (a + 2 * k)
      rw [hz] at z0 z1
      have hG : gotW zs (a + 2 * m) ((a : Int) + 2 * (k : Int)) = z := by
        unfold gotW
        rw [if_pos (by omega), show ((a : Int) + 2 * (k : Int)).toNat = a + 2 * k by omega, hz]
      have HG := Lib.hid hG
      have HZ := Lib.hid hz
      have wz : IntKind.u16.wrap z = z := IntWalk.u16_in _ (by omega)
      clear hz hG
      go_wp2_with (first
        | (go_at_call 77
           refine (rword_any A (a + 2 * m) c zs _ z _ HG.out HR2.out HX.out (by omega)).mono ?_
           rintro e w' ⟨rfl, d1, rfl⟩
           have hw1 : WholeV ((wr.drewN d1).alloc (.cells #[.int .u16 z] 28)) wr.heap.size 28 [.int .u16 z] := heap_alloc_new (wr.drewN d1) _
           have HW := Lib.hid hw1.row
           have hk1 : (wr.drewN d1).ownsRow w.heap.size 28 1 (.slice B k d) k ((wordsAt zs a k).map (Value.int .u16)) := HK.out
           have HO1 := Lib.hid (hk1.alloc (.cells #[.int .u16 z] 28))
           have hb1 : Below w.heap.size w (wr.drewN d1) := below_drewN HB.out d1
           have HB1 := Lib.hid (hb1.alloc hb1.size (.cells #[.int .u16 z] 28))
           clear hw1 hk1 hb1)
        | (at_builtin
           refine wpList_append_row _ (o := ⟨some 31, _, _, _, _, _⟩) rfl (.tmp 22) (.tmp 30) 27 rfl w.heap.size 28 (.int .u16 0) 2 Try.underlying27 infoW rfl (.slice B k d) k _ rfl HO1.out _ (some ⟨wr.heap.size, 0, none⟩) 1 1 _ rfl HW.out (by simp [Value.oneCell']) (by omega) (by omega) HB1.out.size ?_
           intro v2 w2 hown hg hat
           obtain ⟨B2, d2, rfl⟩ := own_slice hown
           have HO2 := Lib.hid hown
           have HB2 := Lib.hid (below_append HB1.out HO1.out hg HB1.out.size)
           clear hown hg hat))
      go_roundw
      case rel =>
        refine ⟨k + 1, B2, d2, by omega, by go_num, rfl, ?_, HB2⟩
        have h := HO2.out
        rw [wordsAt_succ, HZ.out, List.map_append]
        exact h
      case measure => simp [intOf]; omega
    · obtain rfl : m = k := by omega
      go_wp2
      go_ret2
      exact ⟨B, d, rfl, HK.out, HB.out⟩

theorem rlist_at (A : Option Addr) (n c : Nat) (zs : List Int) (a m : Nat) (x y : Int) (w : World) (hx0 : x = a) (hy0 : y = m) (hr : Row .u8 w w.heap.size A n zs) (hx : Bytes8 zs) (ha : a ≤ 100) (hm : m ≤ 1000) (h : n = a + 2 * m) :
    Calls Try.prog 76 #[.slice A n c, .int .i64 x, .int .i64 y] w fun e w' => ∃ B d, e = .returned (.tuple #[.slice B m d, .bool true]) ∧ w'.ownsRow w.heap.size 28 1 (.slice B m d) m ((wordsAt zs a m).map (Value.int .u16)) ∧ Below w.heap.size w w' := by
  subst hx0 hy0
  exact rlist_own A n c zs a m w hr hx ha hm h

end Go.Proofs.Ytokljdkbheogoaa

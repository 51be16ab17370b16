/- The document's words of a request, read: word (any place), list. -/
import Derived.Test.YtielfekkonflfaaAskBytes
import Derived.Test.YtielfekkonflfaaLentWords
namespace Go.Proofs.Ytielfekkonflfaa
open Go.ChangeShapes Go.WideShapes Go.ChangeAt Go.RowKit
set_option linter.unusedVariables false
set_option linter.unusedSimpArgs false

theorem gotW_bounds {zs : List Int} (hx : Bytes8 zs) (n : Nat) (a : Int) : 0 ≤ gotW zs n a ∧ gotW zs n a ≤ 65535 := by
  unfold gotW
  split
  · exact wordAt_bounds hx _
  · omega
/-- The document's word, wherever; 0 where there is none. -/
theorem rword_any (A : Option Addr) (n c : Nat) (zs : List Int) (a g : Int) (w : World) (hg : gotW zs n a = g) (hr : Row .u8 w w.heap.size A n zs) (hx : Bytes8 zs) (hn : n ≤ 100000) :
    Calls Try.prog 63 #[.slice A n c, .int .i64 a] w (Quiet (.int .i64 g) w) := by
  obtain ⟨b1, b2⟩ := gotW_bounds hx n a
  rw [hg] at b1 b2
  have HR := Lib.hid hr
  have HX := Lib.hid hx
  have HG := Lib.hid hg
  clear hr hx hg
  go_enter Try.func63, Try.ntmps63
  go_wp2_with (go_at_call 81; refine (refget_any A n c zs a _ HR.out HX.out hn).mono ?_; rintro e w' ⟨rfl, d, rfl⟩; rw [HG.out])
  go_ret
  exact ⟨rfl, d, rfl⟩

/-- So many words from a place on. -/
def wordsAt (zs : List Int) (at_ : Nat) (m : Nat) : List Int := (List.range m).map fun i => wordAt zs (at_ + 2 * i)
theorem wordsAt_length (zs : List Int) (a m : Nat) : (wordsAt zs a m).length = m := by simp [wordsAt]
theorem wordsAt_succ (zs : List Int) (a m : Nat) : wordsAt zs a (m + 1) = wordsAt zs a m ++ [wordAt zs (a + 2 * m)] := by simp [wordsAt, List.range_succ]
theorem wordsAt_words {zs : List Int} (hx : Bytes8 zs) (a m : Nat) : Words (wordsAt zs a m) := by
  intro x hm
  obtain ⟨i, _, rfl⟩ := List.mem_map.1 hm
  exact wordAt_bounds hx _

theorem rlist_no (A : Option Addr) (n c : Nat) (a m : Int) (w : World) (h0 : 0 ≤ a) (h1 : a ≤ 100) (m0 : 0 ≤ m) (m1 : m ≤ 65535) (h : (n : Int) ≠ a + 2 * m) :
    Calls Try.prog 62 #[.slice A n c, .int .i64 a, .int .i64 m] w fun e w' => e = .returned (.tuple #[.slice none 0 0, .bool false]) ∧ w = w' := by
  go_enter Try.func62, Try.ntmps62
  go_wp2
  go_ret2
  exact ⟨rfl, rfl⟩

set_option maxHeartbeats 1000000 in
theorem rlist_yes (A : Option Addr) (n c : Nat) (zs : List Int) (a m : Nat) (w : World) (hr : Row .u8 w w.heap.size A n zs) (hx : Bytes8 zs) (ha : a ≤ 100) (hm : m ≤ 1000) (h : n = a + 2 * m) :
    Calls Try.prog 62 #[.slice A n c, .int .i64 (a : Int), .int .i64 (m : Int)] w fun e w' => ∃ B d, e = .returned (.tuple #[.slice B m d, .bool true]) ∧ Row .u16 w' w'.heap.size B m (wordsAt zs a m) ∧ Below w.heap.size w w' := by
  have HR := Lib.hid hr
  have HX := Lib.hid hx
  clear hr hx
  subst h
  go_enter Try.func62, Try.ntmps62
  go_wp2
  go_loopw [8, 9] (fun l i wr => ∃ (k : Nat) (B : Option Addr) (d : Nat), k ≤ m ∧ i = .int .i64 (k : Int) ∧ l = .slice B k d ∧ Hid (wr.ownsRow w.heap.size 25 1 (.slice B k d) k ((wordsAt zs a k).map (Value.int .u16))) ∧ Hid (Below w.heap.size w wr)) (fun _ i _ => m - (intOf i).toNat)
  case atStart => exact ⟨0, none, 0, by omega, rfl, rfl, own_none _ _ _, Below.refl _ _⟩
  case round =>
    obtain ⟨k, B, d, hk, rfl, rfl, HK, HB⟩ := hrel
    by_cases hlt : k < m
    · have hi : (k : Int) < (m : Int) := by omega
      have HR2 := Lib.hid ((HR.out.below HB.out).more HB.out.size)
      obtain ⟨z, hz⟩ : ∃ z, wordAt zs (a + 2 * k) = z := ⟨_, rfl⟩
      obtain ⟨z0, z1⟩ := wordAt_bounds HX.out (a + 2 * k)
      rw [hz] at z0 z1
      have hG : gotW zs (a + 2 * m) ((a : Int) + 2 * (k : Int)) = z := by
        unfold gotW
        rw [if_pos (by omega), show ((a : Int) + 2 * (k : Int)).toNat = a + 2 * k by omega, hz]
      have HG := Lib.hid hG
      have HZ := Lib.hid hz
      have wz : IntKind.u16.wrap z = z := IntWalk.u16_in _ (by omega)
      clear hz hG
      go_wp2_with (first
        | (go_at_call 63
           refine (rword_any A (a + 2 * m) c zs _ z _ HG.out HR2.out HX.out (by omega)).mono ?_
           rintro e w' ⟨rfl, d1, rfl⟩
           have hw1 : WholeV ((wr.drewN d1).alloc (.cells #[.int .u16 z] 25)) wr.heap.size 25 [.int .u16 z] := heap_alloc_new (wr.drewN d1) _
           have HW := Lib.hid hw1.row
           have hk1 : (wr.drewN d1).ownsRow w.heap.size 25 1 (.slice B k d) k ((wordsAt zs a k).map (Value.int .u16)) := HK.out
           have HO1 := Lib.hid (hk1.alloc (.cells #[.int .u16 z] 25))
           have hb1 : Below w.heap.size w (wr.drewN d1) := below_drewN HB.out d1
           have HB1 := Lib.hid (hb1.alloc hb1.size (.cells #[.int .u16 z] 25))
           clear hw1 hk1 hb1)
        | (at_builtin
           refine wpList_append_row _ (o := ⟨some 31, _, _, _, _, _⟩) rfl (.tmp 22) (.tmp 30) 22 rfl w.heap.size 25 (.int .u16 0) 2 Try.underlying22 infoW rfl (.slice B k d) k _ rfl HO1.out _ (some ⟨wr.heap.size, 0, none⟩) 1 1 _ rfl HW.out (by simp [Value.oneCell']) (by omega) (by omega) HB1.out.size ?_
           intro v2 w2 hown hg hat
           obtain ⟨B2, d2, rfl⟩ := own_slice hown
           have HO2 := Lib.hid hown
           have HB2 := Lib.hid (below_append HB1.out HO1.out hg HB1.out.size)
           clear hown hg hat))
      go_roundw
      case rel =>
        refine ⟨k + 1, B2, d2, by omega, by go_num, rfl, ?_, HB2⟩
        have h := HO2.out
        rw [wordsAt_succ, HZ.out, List.map_append]
        exact h
      case measure => simp [intOf]; omega
    · obtain rfl : m = k := by omega
      go_wp2
      go_ret2
      exact ⟨B, d, rfl, (own_row HK.out).ints, HB.out⟩

end Go.Proofs.Ytielfekkonflfaa

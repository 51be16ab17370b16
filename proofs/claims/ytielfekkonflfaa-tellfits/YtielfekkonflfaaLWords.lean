/- Words by a number: busbarlaw0.words. -/
import Derived.Test.YtielfekkonflfaaAskList
import Derived.Test.YtielfekkonflfaaJTellBack5
namespace Go.Proofs.Ytielfekkonflfaa
open Go.ChangeShapes Go.WideShapes Go.ChangeAt Go.RowKit
set_option linter.unusedVariables false
set_option linter.unusedSimpArgs false

/-- So many words, one behind the other. -/
def upW (z : Int) (m : Nat) : List Int := (List.range m).map fun (i : Nat) => z + (i : Int)
theorem upW_length (z : Int) (m : Nat) : (upW z m).length = m := by simp [upW]
theorem upW_succ (z : Int) (m : Nat) : upW z (m + 1) = upW z m ++ [z + (m : Int)] := by simp [upW, List.range_succ]
theorem upW_words (z : Int) (m : Nat) (h0 : 0 ≤ z) (h1 : z < 60000) (hm : m ≤ 5000) : Words (upW z m) := by
  intro x hx
  obtain ⟨i, hi, rfl⟩ := List.mem_map.1 hx
  have := List.mem_range.1 hi
  omega

set_option maxHeartbeats 1000000 in
theorem lwords_any (k : Int) (m : Nat) (y : Int) (w : World) (hy : y = (m : Int)) (h0 : -9223372036854775808 ≤ k) (h1 : k ≤ 9223372036854775807) (hm : m ≤ 1000) :
    Calls Try.prog 40 #[.int .i64 k, .int .i64 y] w fun e w' => ∃ B d, e = .returned (.slice B m d) ∧ w'.ownsRow w.heap.size 25 1 (.slice B m d) m ((upW (k % 60000) m).map (Value.int .u16)) ∧ Below w.heap.size w w' := by
  subst hy
  obtain ⟨z, hz⟩ : ∃ z, k % 60000 = z := ⟨_, rfl⟩
  have z0 : 0 ≤ z := by omega
  have z1 : z < 60000 := by omega
  rw [hz]
  have HZ := Lib.hid hz
  clear hz
  go_enter Try.func40, Try.ntmps40
  go_wp2
  go_loopw [5, 6] (fun l i wr => ∃ (j : Nat) (B : Option Addr) (d : Nat), j ≤ m ∧ i = .int .i64 (j : Int) ∧ l = .slice B j d ∧ Hid (wr.ownsRow w.heap.size 25 1 (.slice B j d) j ((upW z j).map (Value.int .u16))) ∧ Hid (Below w.heap.size w wr)) (fun _ i _ => m - (intOf i).toNat)
  case atStart => exact ⟨0, none, 0, by omega, rfl, rfl, own_none _ _ _, Below.refl _ _⟩
  case round =>
    obtain ⟨j, B, d, hk, rfl, rfl, HK, HB⟩ := hrel
    by_cases hlt : j < m
    · have hi : (j : Int) < (m : Int) := by omega
      have wz : IntKind.u16.wrap (z + (j : Int)) = z + (j : Int) := IntWalk.u16_in _ (by omega)
      have hw1 : WholeV (wr.alloc (.cells #[.int .u16 (z + (j : Int))] 25)) wr.heap.size 25 [.int .u16 (z + (j : Int))] := heap_alloc_new wr _
      have HW := Lib.hid hw1.row
      have HO1 := Lib.hid (HK.out.alloc (.cells #[.int .u16 (z + (j : Int))] 25))
      have HB1 := Lib.hid (HB.out.alloc HB.out.size (.cells #[.int .u16 (z + (j : Int))] 25))
      clear hw1
      go_wp2_with (first
        | (go_at_call 11
           refine (within_any k 60000 _ h0 h1 (by omega) (by omega)).mono ?_
           rintro e w' ⟨rfl, rfl⟩
           rw [HZ.out])
        | (at_builtin
           refine wpList_append_row _ (o := ⟨some 19, _, _, _, _, _⟩) rfl (.tmp 12) (.tmp 18) 22 rfl w.heap.size 25 (.int .u16 0) 2 Try.underlying22 infoW rfl (.slice B j d) j _ rfl HO1.out _ (some ⟨wr.heap.size, 0, none⟩) 1 1 _ rfl HW.out (by simp [Value.oneCell']) (by omega) (by omega) HB1.out.size ?_
           intro v2 w2 hown hg hat
           obtain ⟨B2, d2, rfl⟩ := own_slice hown
           have HO2 := Lib.hid hown
           have HB2 := Lib.hid (below_append HB1.out HO1.out hg HB1.out.size)
           clear hown hg hat))
      go_roundw
      case rel =>
        refine ⟨j + 1, B2, d2, by omega, by go_num, rfl, ?_, HB2⟩
        have h := HO2.out
        rw [upW_succ, List.map_append]
        exact h
      case measure => simp [intOf]; omega
    · obtain rfl : m = j := by omega
      go_wp2
      go_ret
      exact ⟨B, d, rfl, HK.out, HB.out⟩

end Go.Proofs.Ytielfekkonflfaa

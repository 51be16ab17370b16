/- Contracts of package bits: Unpack, Set. -/
import Derived.Test.YtielfekkonflfaaBitsPack
import Derived.Test.YtielfekkonflfaaLentBits
namespace Go.Proofs.Ytielfekkonflfaa
open Go.ChangeShapes Go.WideShapes Go.ChangeAt Go.RowKit
set_option linter.unusedVariables false

theorem unpack_no (A : Option Addr) (m c : Nat) (n : Int) (w : World) (h0 : -9223372036854775808 ≤ n) (h1 : n ≤ 9223372036854775807) (h : n < 0 ∨ nbI n ≠ m) :
    Calls Try.prog 53 #[.slice A m c, .int .i64 n] w fun e w' => e = .returned (.tuple #[.slice none 0 0, .bool false]) ∧ w = w' := by
  by_cases hn : n < 0
  · clear h
    go_enter Try.func53, Try.ntmps53
    go_wp2
    go_ret2
    exact ⟨rfl, rfl⟩
  · have hne : (m : Int) ≠ nbI n := by omega
    obtain ⟨x, hx⟩ : ∃ x, x = nbI n := ⟨_, rfl⟩
    rw [← hx] at hne
    have hd : decide ((m : Int) = x) = false := by simp; exact hne
    have HC : Hid (∀ W, Calls Try.prog 48 #[.int .i64 n] W fun e w' => e = .returned (.int .i64 x) ∧ W = w') := fun W => by rw [hx]; exact bytes_any n W h0 h1
    clear h hx
    go_enter Try.func53, Try.ntmps53
    go_wp2_with (go_at_call 48; refine (HC.out _).mono ?_; rintro e w1 ⟨rfl, rfl⟩)
    go_ret2
    exact ⟨rfl, rfl⟩

/-- The bits that lie there, when k of n have been laid. -/
def unl (zs : List Int) (n k : Nat) : List Bool := unb zs k ++ List.replicate (n - k) false
theorem unl_length (zs : List Int) (n k : Nat) (h : k ≤ n) : (unl zs n k).length = n := by simp [unl, unb_length]; omega
theorem unl_step (zs : List Int) (n k : Nat) (h : k < n) : (unl zs n k).set k (bitB zs k) = unl zs n (k + 1) := by
  unfold unl
  rw [unb_succ, List.set_append_right _ _ (by rw [unb_length]; omega), unb_length, Nat.sub_self, List.append_assoc]
  obtain ⟨m, hm⟩ : ∃ m, n - k = m + 1 := ⟨n - k - 1, by omega⟩
  rw [hm, show n - (k + 1) = m by omega]
  rfl

theorem unpack_yes (A : Option Addr) (n c : Nat) (zs : List Int) (w : World) (hr : Row .u8 w w.heap.size A (nb n) zs) (hx : Bytes8 zs) (hn : n ≤ 100000) :
    Calls Try.prog 53 #[.slice A (nb n) c, .int .i64 (n : Int)] w fun e w' => e = .returned (.tuple #[.slice (some ⟨w.heap.size, 0, none⟩) n n, .bool true]) ∧ WholeV w' w.heap.size 4 ((unb zs n).map Value.bool) ∧ Below w.heap.size w w' := by
  have hmk := make_bools n (by omega)
  have hnb : nb n ≤ 100000 := by have := nb_le n; omega
  have HR := Lib.hid hr
  have HX := Lib.hid hx
  have HS : Hid (WholeV (w.alloc (.cells (Array.replicate n (Value.bool false)) 4)) w.heap.size 4 ((unl zs n 0).map Value.bool)) := by
    unfold WholeV unl unb
    simp only [List.range_zero, List.map_nil, List.nil_append, Nat.sub_zero, List.map_replicate, List.toArray_replicate]
    exact heap_alloc_new w _
  have HBS := Lib.hid ((Below.refl w.heap.size w).alloc (Nat.le_refl _) (.cells (Array.replicate n (Value.bool false)) 4))
  clear hr hx
  go_enter Try.func53, Try.ntmps53
  go_wp2_with (go_at_call 48; refine (bytes_nat _ _ (by omega)).mono ?_; rintro e w1 ⟨rfl, rfl⟩)
  go_loopw [20] (fun i wr => ∃ (k : Nat), k ≤ n ∧ i = .int .i64 (k : Int) ∧ Hid (WholeV wr w.heap.size 4 ((unl zs n k).map Value.bool)) ∧ Hid (Below w.heap.size w wr)) (fun i _ => n - (intOf i).toNat)
  case atStart => exact ⟨0, by omega, rfl, HS, HBS⟩
  case round =>
    obtain ⟨k, hk, rfl, HW, HB⟩ := hrel
    by_cases hlt : k < n
    · have hi1 : (k : Int) < (n : Int) := by omega
      have HR2 := Lib.hid ((HR.out.below HB.out).more HB.out.size)
      have hc1 := (HW.out.cell k).trans (bools_at _ k (by rw [unl_length _ _ _ hk]; exact hlt))
      have hf1 := HW.out.frozen k
      go_wp2_with (go_at_call 77; refine (get_any A (nb n) c zs (k : Int) _ HR2.out HX.out (by omega) (by omega) hnb).mono ?_; rintro e w1 ⟨rfl, d1, rfl⟩)
      go_roundw
      case rel =>
        refine ⟨k + 1, by omega, by go_num, ?_, (below_drewN HB.out d1).setCell (Nat.le_refl _) _⟩
        have h := (HW.out.drewN d1).set k (.bool (bitI zs k))
        rw [bitI_nat, ← List.map_set, unl_step _ _ _ hlt, ← bitI_nat] at h
        exact h
      case measure => simp [intOf]; omega
    · obtain rfl : n = k := by omega
      go_wp2
      go_ret2
      refine ⟨rfl, ?_, HB.out⟩
      have h := HW.out
      unfold unl at h
      rw [Nat.sub_self, List.replicate_zero, List.append_nil] at h
      exact h

/-- Bytes with bit i set to v, of any number i. -/
def setI (zs : List Int) (n : Nat) (i : Int) (v : Bool) : List Int := if 0 ≤ i ∧ i / 8 < n then setB zs i.toNat v else zs
theorem setI_in (zs : List Int) (n k : Nat) (v : Bool) (h : k / 8 < n) : setI zs n (k : Int) v = setB zs k v := by
  unfold setI
  rw [if_pos (by omega), Int.toNat_natCast]
theorem setI_out (zs : List Int) (n : Nat) (i : Int) (v : Bool) (h : ¬ (0 ≤ i ∧ i / 8 < n)) : setI zs n i v = zs := if_neg h

theorem splice_full (n : Nat) (cs : List Value) (z : Value) (h : cs.length = n) : splice (List.replicate n z) 0 cs = cs := by
  have := splice_any n 0 cs z h
  simpa using this

end Go.Proofs.Ytielfekkonflfaa

/- Joined: PRead PUnp RUnp. -/
import Derived.Test.YtokljdkbheogoaaPSmall
import Derived.Test.YtokljdkbheogoaaAskList
import Derived.Test.YtokljdkbheogoaaBitsMore
import Derived.Test.YtokljdkbheogoaaRefMore
namespace Go.Proofs.Ytokljdkbheogoaa
open Go.ChangeShapes Go.WideShapes Go.ChangeAt Go.RowKit
set_option linter.unusedVariables false
set_option linter.unusedSimpArgs false

theorem pnumber_any (A : Option Addr) (n c : Nat) (zs : List Int) (a g : Int) (w : World) (hg : gotW zs n a = g) (hr : Row .u8 w w.heap.size A n zs) (hx : Bytes8 zs) (hn : n ≤ 100000) :
    Calls Try.prog 70 #[.slice A n c, .int .i64 a] w (Quiet (.int .i64 g) w) := by
  obtain ⟨b1, b2⟩ := gotW_bounds hx n a
  rw [hg] at b1 b2
  have HR := Lib.hid hr
  have HX := Lib.hid hx
  have HG := Lib.hid hg
  clear hr hx hg
  go_enter Try.func70, Try.ntmps70
  go_wp2_with (go_at_call 97; refine (wget_any A n c zs a _ HR.out HX.out hn).mono ?_; rintro e w' ⟨rfl, d, rfl⟩; rw [HG.out])
  go_ret
  exact ⟨rfl, d, rfl⟩

section
variable (A : Option Addr) (n c : Nat) (zs : List Int) (w : World)

end

theorem and1 (i : Nat) (h : i < 9223372036854775808) : bits .and .i64 (i : Int) 1 = ((i % 2 : Nat) : Int) := by
  have ea : (BitVec.ofInt 64 (i : Int)).toNat = i := by rw [BitVec.ofInt_natCast, BitVec.toNat_ofNat]; exact Nat.mod_eq_of_lt (by omega)
  show IntKind.i64.wrap ((BitVec.ofInt 64 (i : Int) &&& BitVec.ofInt 64 1).toNat : Int) = _
  rw [BitVec.toNat_and, ea]
  have e : i &&& (BitVec.ofInt 64 1).toNat = i % 2 := Nat.and_two_pow_sub_one_eq_mod i 1
  rw [e]
  exact IntWalk.i64_in _ (by omega)
set_option maxRecDepth 100000 in
theorem punpacked_no (A : Option Addr) (m c : Nat) (n : Int) (w : World) (n0 : 0 ≤ n) (n1 : n ≤ 65535) (h : ¬ (m : Int) = n * 2) (hm : m ≤ 1000000) :
    Calls Try.prog 72 #[.slice A m c, .int .i64 n] w fun e w' => e = .returned (.tuple #[.slice none 0 0, .bool false]) ∧ w = w' := by
  have ea := and1 m (by omega)
  obtain ⟨r, hr⟩ : ∃ r, ((m % 2 : Nat) : Int) = r := ⟨_, rfl⟩
  rw [hr] at ea
  by_cases hz : r = 0
  · subst hz
    have hq : ¬ (m : Int) / 2 = n := by omega
    go_enter Try.func72, Try.ntmps72
    go_wp2
    go_ret2
    exact ⟨rfl, rfl⟩
  · go_enter Try.func72, Try.ntmps72
    go_wp2
    go_ret2
    exact ⟨rfl, rfl⟩

/-- The words that lie there, when k of n have been laid. -/
def wol (zs : List Int) (n k : Nat) : List Int := wordsAt zs 0 k ++ List.replicate (n - k) 0
theorem wol_length (zs : List Int) (n k : Nat) (h : k ≤ n) : (wol zs n k).length = n := by simp [wol, wordsAt_length]; omega
theorem wol_step (zs : List Int) (n k : Nat) (h : k < n) : (wol zs n k).set k (wordAt zs (2 * k)) = wol zs n (k + 1) := by
  unfold wol
  rw [wordsAt_succ, List.set_append_right _ _ (by rw [wordsAt_length]; omega), wordsAt_length, Nat.sub_self, List.append_assoc, Nat.zero_add]
  obtain ⟨m, hm⟩ : ∃ m, n - k = m + 1 := ⟨n - k - 1, by omega⟩
  rw [hm, show n - (k + 1) = m by omega]
  rfl

set_option maxRecDepth 100000 in
set_option maxHeartbeats 1000000 in
theorem punpacked_yes (A : Option Addr) (n m c : Nat) (y : Int) (zs : List Int) (w : World) (hm : m = 2 * n) (hy : y = (n : Int)) (hr : Row .u8 w w.heap.size A m zs) (hx : Bytes8 zs) (hn : n ≤ 1000) :
    Calls Try.prog 72 #[.slice A m c, .int .i64 y] w fun e w' => e = .returned (.tuple #[.slice (some ⟨w.heap.size, 0, none⟩) n n, .bool true]) ∧ Whole .u16 w' w.heap.size 28 (wordsAt zs 0 n) ∧ Below w.heap.size w w' := by
  subst hm hy
  have hmk := make_any (P := Try.prog) 27 28 (.int .u16 0) 2 Try.underlying27 infoW rfl n (by omega) (by omega)
  have HR := Lib.hid hr
  have HX := Lib.hid hx
  have HS : Hid (Whole .u16 (w.alloc (.cells (Array.replicate n (Value.int .u16 0)) 28)) w.heap.size 28 (wol zs n 0)) := by
    unfold Whole wol wordsAt
    simp only [List.range_zero, List.map_nil, List.nil_append, Nat.sub_zero, List.map_replicate, List.toArray_replicate]
    exact heap_alloc_new w _
  have HBS := Lib.hid ((Below.refl w.heap.size w).alloc (Nat.le_refl _) (.cells (Array.replicate n (Value.int .u16 0)) 28))
  have ea := and1 (2 * n) (by omega)
  rw [Nat.mul_mod_right] at ea
  have hne : (((2 * n : Nat) : Int)) / 2 = (n : Int) := by omega
  clear hr hx
  go_enter Try.func72, Try.ntmps72
  go_wp2
  go_loopw [7, 22] (fun u i wr => ∃ (k : Nat), k ≤ n ∧ i = .int .i64 (k : Int) ∧ Hid (Whole .u16 wr w.heap.size 28 (wol zs n k)) ∧ Hid (Below w.heap.size w wr)) (fun _ i _ => n - (intOf i).toNat)
  case atStart => exact ⟨0, by omega, rfl, HS, HBS⟩
  case round =>
    obtain ⟨k, hk, rfl, HW, HB⟩ := hrel
    by_cases hlt : k < n
    · have hi1 : (k : Int) < (n : Int) := by omega
      have HR2 := Lib.hid ((HR.out.below HB.out).more HB.out.size)
      have hc1 := HW.out.cell k (by rw [wol_length _ _ _ hk]; exact hlt)
      have hf1 := HW.out.frozen k
      obtain ⟨z, hz⟩ : ∃ z, wordAt zs (2 * k) = z := ⟨_, rfl⟩
      obtain ⟨z0, z1⟩ := wordAt_bounds HX.out (2 * k)
      rw [hz] at z0 z1
      have hG : gotW zs (2 * n) ((k : Int) * 2) = z := by
        unfold gotW
        rw [if_pos (by omega), show ((k : Int) * 2).toNat = 2 * k by omega, hz]
      have HG := Lib.hid hG
      have HZ := Lib.hid hz
      have wz : IntKind.u16.wrap z = z := IntWalk.u16_in _ (by omega)
      clear hz hG
      go_wp2_with (go_at_call 70; (with_reducible refine (pnumber_any A (2 * n) c zs _ z _ HG.out HR2.out HX.out (by omega)).mono ?_); rintro e w1 ⟨rfl, d1, rfl⟩)
      go_roundw
      case rel =>
        refine ⟨k + 1, by omega, by go_num, ?_, (below_drewN HB.out d1).setCell (Nat.le_refl _) _⟩
        have h := (HW.out.drewN d1).set_ k z
        rw [← HZ.out, wol_step _ _ _ hlt, HZ.out] at h
        exact h
      case measure => simp [intOf]; omega
    · obtain rfl : n = k := by omega
      go_wp2
      go_ret2
      refine ⟨rfl, ?_, HB.out⟩
      have h := HW.out
      unfold wol at h
      rw [Nat.sub_self, List.replicate_zero, List.append_nil] at h
      exact h

section
variable (A : Option Addr) (n c : Nat) (zs : List Int) (w : World)
end

theorem rrunpack_own (A : Option Addr) (n c : Nat) (zs : List Int) (w : World) (hr : Row .u8 w w.heap.size A (nb n) zs) (hx : Bytes8 zs) (hn : n ≤ 100000) :
    Calls Try.prog 75 #[.slice A (nb n) c, .int .i64 (n : Int)] w fun e w' => ∃ B d, e = .returned (.tuple #[.slice B n d, .bool true]) ∧ w'.ownsRow w.heap.size 4 1 (.slice B n d) n ((unb zs n).map Value.bool) ∧ Below w.heap.size w w' := by
  have hnb : nb n ≤ 100000 := by have := nb_le n; omega
  have HR := Lib.hid hr
  have HX := Lib.hid hx
  have HB0 := Lib.hid (Below.refl w.heap.size w)
  clear hr hx
  go_enter Try.func75, Try.ntmps75
  go_wp2_with (go_at_call 100; refine (refbytes_nat _ _ (by omega)).mono ?_; rintro e w1 ⟨rfl, rfl⟩)
  go_loopw [6, 7] (fun b i wr => ∃ (k : Nat) (B : Option Addr) (cb : Nat), k ≤ n ∧ i = .int .i64 (k : Int) ∧ b = .slice B k cb ∧ Hid (wr.ownsRow w.heap.size 4 1 (.slice B k cb) k ((unb zs k).map Value.bool)) ∧ Hid (Below w.heap.size w wr)) (fun _ i _ => n - (intOf i).toNat)
  case atStart => exact ⟨0, none, 0, by omega, rfl, rfl, own_none _ _ _, HB0⟩
  case round =>
    obtain ⟨k, B, cb, hk, rfl, rfl, HK, HB⟩ := hrel
    by_cases hlt : k < n
    · have hi1 : (k : Int) < (n : Int) := by omega
      have HR2 := Lib.hid ((HR.out.below HB.out).more HB.out.size)
      go_wp2_with (first
        | (go_at_call 101
           refine (bit_any A (nb n) c zs (k : Int) _ HR2.out HX.out (by omega) (by omega) hnb).mono ?_
           rintro e w1 ⟨rfl, d1, rfl⟩
           have hw : WholeV ((wr.drewN d1).alloc (.cells #[.bool (bitI zs k)] 4)) (wr.drewN d1).heap.size 4 [.bool (bitI zs k)] := heap_alloc_new _ _
           have HW := Lib.hid hw.row
           have HO1 := Lib.hid ((show (wr.drewN d1).ownsRow w.heap.size 4 1 (.slice B k cb) k ((unb zs k).map Value.bool) from HK.out).alloc (o := .cells #[.bool (bitI zs k)] 4))
           have HB1 := Lib.hid ((below_drewN HB.out d1).alloc HB.out.size (.cells #[.bool (bitI zs k)] 4))
           clear hw)
        | (at_builtin
           refine wpList_append_row _ (o := ⟨some 27, _, _, _, _, _⟩) rfl (.tmp 22) (.tmp 26) 26 rfl w.heap.size 4 (.bool false) 1 Try.underlying26 infoBool rfl (.slice B k cb) k _ rfl HO1.out _ (some ⟨wr.heap.size, 0, none⟩) 1 1 [.bool (bitI zs k)] rfl HW.out (bools_oneCell [bitI zs k]) (by omega) (by omega) (by have := HB1.out.size; omega) ?_
           intro v2 w2 hown2 hg2 hat2
           obtain ⟨B2, c2, rfl⟩ := own_slice hown2
           have HO2 := Lib.hid hown2
           have HB2 := Lib.hid (below_append HB1.out HO1.out hg2 (by have := HB1.out.size; omega))
           clear hown2 hg2 hat2))
      go_roundw
      case rel =>
        refine ⟨k + 1, B2, c2, by omega, by go_num, rfl, ?_, HB2⟩
        have h := HO2.out
        rw [bitI_nat] at h
        rw [unb_succ, List.map_append]
        exact h
      case measure => simp [intOf]; omega
    · obtain rfl : n = k := by omega
      go_wp2
      go_ret2
      exact ⟨B, cb, rfl, HK.out, HB.out⟩

theorem rrunpack_at (A : Option Addr) (m c k : Nat) (y : Int) (zs : List Int) (w : World) (hm : (m : Int) = ((nb k : Nat) : Int)) (hy : y = (k : Int)) (hr : Row .u8 w w.heap.size A m zs) (hx : Bytes8 zs) (hk : k ≤ 100000) :
    Calls Try.prog 75 #[.slice A m c, .int .i64 y] w fun e w' => ∃ B d, e = .returned (.tuple #[.slice B k d, .bool true]) ∧ w'.ownsRow w.heap.size 4 1 (.slice B k d) k ((unb zs k).map Value.bool) ∧ Below w.heap.size w w' := by
  obtain rfl : m = nb k := by omega
  subst hy
  exact rrunpack_own A k c zs w hr hx hk

end Go.Proofs.Ytokljdkbheogoaa

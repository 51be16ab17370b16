/- Joined: AskList2 AskSame DigitBy PRead PUnp Tail PFieldT PFieldX RefMore RUnp PSpec PEnc Told Made RSame2. -/
import Derived.Test.YtielfekkonflfaaAskList
import Derived.Test.YtielfekkonflfaaAskSpec
import Derived.Test.YtielfekkonflfaaWithin
import Derived.Test.YtielfekkonflfaaPSmall
import Derived.Test.YtielfekkonflfaaBitsMore
import Derived.Test.YtielfekkonflfaaPTellX
import Derived.Test.YtielfekkonflfaaRefBits
import Derived.Test.YtielfekkonflfaaPOr
import Derived.Test.YtielfekkonflfaaJTellBack2
import Derived.Deep.CutBlock
import Derived.Deep.RegionLaw
import Derived.Deep.RegionHeld3
import Derived.Deep.CutRange
import Derived.Test.YtielfekkonflfaaStep
import Derived.Test.YtielfekkonflfaaTSpec
import Derived.Test.YtielfekkonflfaaObjs
namespace Go.Proofs.Ytielfekkonflfaa
open Go.ChangeShapes Go.WideShapes Go.ChangeAt Go.RowKit
set_option linter.unusedVariables false
set_option linter.unusedSimpArgs false

/-- A store into an older block leaves a row of the call's own as it was. -/
theorem own_far {w : World} {b : Nat} {e : TypeId} {v : Value} {n : Nat} {xs : List Value} (h : w.ownsRow b e 1 v n xs) (p : Addr) (hp : p.block < b) (u : Value) : (w.setCell p u).ownsRow b e 1 v n xs := by
  refine ⟨h.1, ?_⟩
  rcases h.2 with h0 | ⟨g, cap, cur, hv, hg, hh, rest⟩
  · exact .inl h0
  · exact .inr ⟨g, cap, cur, hv, hg, (Below.heap_setCell _ _ _ _ (by omega)).trans hh, rest⟩

set_option maxHeartbeats 1000000 in
theorem rlist_own (A : Option Addr) (n c : Nat) (zs : List Int) (a m : Nat) (w : World) (hr : Row .u8 w w.heap.size A n zs) (hx : Bytes8 zs) (ha : a ≤ 100) (hm : m ≤ 1000) (h : n = a + 2 * m) :
    Calls Try.prog 62 #[.slice A n c, .int .i64 (a : Int), .int .i64 (m : Int)] w fun e w' => ∃ B d, e = .returned (.tuple #[.slice B m d, .bool true]) ∧ w'.ownsRow w.heap.size 25 1 (.slice B m d) m ((wordsAt zs a m).map (Value.int .u16)) ∧ Below w.heap.size w w' := by
  have HR := Lib.hid hr
  have HX := Lib.hid hx
  clear hr hx
  subst h
  go_enter Try.func62, Try.ntmps62
  go_wp2
  go_loopw [8, 9] (fun l i wr => ∃ (k : Nat) (B : Option Addr) (d : Nat), k ≤ m ∧ i = .int .i64 (k : Int) ∧ l = .slice B k d ∧ Hid (wr.ownsRow w.heap.size 25 1 (.slice B k d) k ((wordsAt zs a k).map (Value.int .u16))) ∧ Hid (Below w.heap.size w wr)) (fun _ i _ => m - (intOf i).toNat)
  case atStart => exact ⟨0, none, 0, by omega, rfl, rfl, own_none _ _ _, Below.refl _ _⟩
  case round =>
    obtain ⟨k, B, d, hk, rfl, rfl, HK, HB⟩ := hrel
    by_cases hlt : k < m
    · have hi : (k : Int) < (m : Int) := by omega
      have HR2 := Lib.hid ((HR.out.below HB.out).more HB.out.size)
      obtain ⟨z, hz⟩ : ∃ z, wordAt zs (a + 2 * k) = z := ⟨_, rfl⟩
      obtain ⟨z0, z1⟩ := wordAt_bounds HX.out (a + 2 * k)
      rw [hz] at z0 z1
      have hG : gotW zs (a + 2 * m) ((a : Int) + 2 * (k : Int)) = z := by
        unfold gotW
        rw [if_pos (by omega), show ((a : Int) + 2 * (k : Int)).toNat = a + 2 * k by omega, hz]
      have HG := Lib.hid hG
      have HZ := Lib.hid hz
      have wz : IntKind.u16.wrap z = z := IntWalk.u16_in _ (by omega)
      clear hz hG
      go_wp2_with (first
        | (go_at_call 63
           refine (rword_any A (a + 2 * m) c zs _ z _ HG.out HR2.out HX.out (by omega)).mono ?_
           rintro e w' ⟨rfl, d1, rfl⟩
           have hw1 : WholeV ((wr.drewN d1).alloc (.cells #[.int .u16 z] 25)) wr.heap.size 25 [.int .u16 z] := heap_alloc_new (wr.drewN d1) _
           have HW := Lib.hid hw1.row
           have hk1 : (wr.drewN d1).ownsRow w.heap.size 25 1 (.slice B k d) k ((wordsAt zs a k).map (Value.int .u16)) := HK.out
           have HO1 := Lib.hid (hk1.alloc (.cells #[.int .u16 z] 25))
           have hb1 : Below w.heap.size w (wr.drewN d1) := below_drewN HB.out d1
           have HB1 := Lib.hid (hb1.alloc hb1.size (.cells #[.int .u16 z] 25))
           clear hw1 hk1 hb1)
        | (at_builtin
           refine wpList_append_row _ (o := ⟨some 31, _, _, _, _, _⟩) rfl (.tmp 22) (.tmp 30) 22 rfl w.heap.size 25 (.int .u16 0) 2 Try.underlying22 infoW rfl (.slice B k d) k _ rfl HO1.out _ (some ⟨wr.heap.size, 0, none⟩) 1 1 _ rfl HW.out (by simp [Value.oneCell']) (by omega) (by omega) HB1.out.size ?_
           intro v2 w2 hown hg hat
           obtain ⟨B2, d2, rfl⟩ := own_slice hown
           have HO2 := Lib.hid hown
           have HB2 := Lib.hid (below_append HB1.out HO1.out hg HB1.out.size)
           clear hown hg hat))
      go_roundw
      case rel =>
        refine ⟨k + 1, B2, d2, by omega, by go_num, rfl, ?_, HB2⟩
        have h := HO2.out
        rw [wordsAt_succ, HZ.out, List.map_append]
        exact h
      case measure => simp [intOf]; omega
    · obtain rfl : m = k := by omega
      go_wp2
      go_ret2
      exact ⟨B, d, rfl, HK.out, HB.out⟩

theorem rlist_at (A : Option Addr) (n c : Nat) (zs : List Int) (a m : Nat) (x y : Int) (w : World) (hx0 : x = a) (hy0 : y = m) (hr : Row .u8 w w.heap.size A n zs) (hx : Bytes8 zs) (ha : a ≤ 100) (hm : m ≤ 1000) (h : n = a + 2 * m) :
    Calls Try.prog 62 #[.slice A n c, .int .i64 x, .int .i64 y] w fun e w' => ∃ B d, e = .returned (.tuple #[.slice B m d, .bool true]) ∧ w'.ownsRow w.heap.size 25 1 (.slice B m d) m ((wordsAt zs a m).map (Value.int .u16)) ∧ Below w.heap.size w w' := by
  subst hx0 hy0
  exact rlist_own A n c zs a m w hr hx ha hm h

theorem digit_any (k d n : Int) (w : World) (h0 : -9223372036854775808 ≤ k) (h1 : k ≤ 9223372036854775807) (hd : 1 < d) (hd1 : d ≤ 4611686018427387903) (hn : 0 < n) (hn1 : n ≤ 4611686018427387903) :
    Calls Try.prog 19 #[.int .i64 k, .int .i64 d, .int .i64 n] w fun e w' => e = .returned (.int .i64 ((k.tdiv d) % n)) ∧ w = w' := by
  have hb : -9223372036854775808 ≤ k.tdiv d ∧ k.tdiv d ≤ 9223372036854775807 := by
    rcases Int.le_total 0 k with h | h
    · rw [Int.tdiv_eq_ediv_of_nonneg h]
      have := Int.ediv_le_self d h
      have := Int.ediv_nonneg h (show 0 ≤ d by omega)
      omega
    · have e : k.tdiv d = - ((-k) / d) := by
        have := Int.neg_tdiv (-k) d
        rw [Int.neg_neg] at this
        rw [this, Int.tdiv_eq_ediv_of_nonneg (show 0 ≤ -k by omega)]
      have := Int.ediv_le_self d (show 0 ≤ -k by omega)
      have := Int.ediv_nonneg (show 0 ≤ -k by omega) (show 0 ≤ d by omega)
      omega
  obtain ⟨q, hq⟩ : ∃ q, k.tdiv d = q := ⟨_, rfl⟩
  rw [hq] at hb ⊢
  have b0 := hb.1
  have b1 := hb.2
  have hd0 : d ≠ 0 := by omega
  have hd2 : d ≠ -1 := by omega
  clear hb
  go_enter Try.func19, Try.ntmps19
  go_wp2_with (go_at_call 11; refine (within_any q n _ b0 b1 hn hn1).mono ?_; rintro e w' ⟨rfl, rfl⟩)
  go_ret
  exact ⟨rfl, rfl⟩

theorem samewords_yes (A B : Option Addr) (n c d : Nat) (zs : List Int) (w : World) (ha : Row .u16 w w.heap.size A n zs) (hb : Row .u16 w w.heap.size B n zs) (hn : n ≤ 100000) :
    Calls Try.prog 34 #[.slice A n c, .slice B n d] w (Quiet (.bool true) w) := by
  have HA := Lib.hid ha
  have HB := Lib.hid hb
  clear ha hb
  go_enter Try.func34, Try.ntmps34
  go_wp2
  go_loopw [5] (fun i wr => ∃ k d : Nat, k ≤ n ∧ i = .int .i64 (k : Int) ∧ wr = w.drewN d) (fun i _ => n - (intOf i).toNat)
  case atStart => exact ⟨0, 0, by omega, rfl, rfl⟩
  case round =>
    obtain ⟨k, d, hk, rfl, rfl⟩ := hrel
    by_cases hlt : k < n
    · obtain ⟨b, off, rfl, hb, hcell⟩ := HA.out.2 (by omega)
      obtain ⟨b', off', rfl, hb', hcell'⟩ := HB.out.2 (by omega)
      have hc1 := hcell k hlt
      have hc2 := hcell' k hlt
      have hi1 : (k : Int) < (n : Int) := by omega
      clear hcell hcell'
      go_wp2
      go_quiet (fail)
      go_wp2
      go_roundw
      case rel => exact ⟨k + 1, _, by omega, by go_num, rfl⟩
      case measure => simp [intOf]; omega
    · go_wp2
      go_ret
      exact ⟨rfl, _, rfl⟩

theorem samebits5_yes (A B : Option Addr) (n c d : Nat) (bs : List Bool) (w : World) (ha : BRow w w.heap.size A n bs) (hb : BRow w w.heap.size B n bs) (hn : n ≤ 100000) :
    Calls Try.prog 33 #[.slice A n c, .slice B n d] w (Quiet (.bool true) w) := by
  have HA := Lib.hid ha
  have HB := Lib.hid hb
  clear ha hb
  go_enter Try.func33, Try.ntmps33
  go_wp2
  go_loopw [5] (fun i wr => ∃ k d : Nat, k ≤ n ∧ i = .int .i64 (k : Int) ∧ wr = w.drewN d) (fun i _ => n - (intOf i).toNat)
  case atStart => exact ⟨0, 0, by omega, rfl, rfl⟩
  case round =>
    obtain ⟨k, d, hk, rfl, rfl⟩ := hrel
    by_cases hlt : k < n
    · obtain ⟨b, off, rfl, hb, hcell⟩ := HA.out.2 (by omega)
      obtain ⟨b', off', rfl, hb', hcell'⟩ := HB.out.2 (by omega)
      have hc1 := hcell k hlt
      have hc2 := hcell' k hlt
      have hi1 : (k : Int) < (n : Int) := by omega
      clear hcell hcell'
      go_wp2
      go_quiet (fail)
      go_wp2
      go_roundw
      case rel => exact ⟨k + 1, _, by omega, by go_num, rfl⟩
      case measure => simp [intOf]; omega
    · go_wp2
      go_ret
      exact ⟨rfl, _, rfl⟩

theorem digit_by (k d n : Int) (z : Nat) (w : World) (hz : (k.tdiv d) % n = (z : Int)) (h0 : -9223372036854775808 ≤ k) (h1 : k ≤ 9223372036854775807) (hd : 1 < d) (hd1 : d ≤ 4611686018427387903) (hn : 0 < n) (hn1 : n ≤ 4611686018427387903) :
    Calls Try.prog 19 #[.int .i64 k, .int .i64 d, .int .i64 n] w fun e w' => e = .returned (.int .i64 (z : Int)) ∧ w = w' := by
  have hb : -9223372036854775808 ≤ k.tdiv d ∧ k.tdiv d ≤ 9223372036854775807 := by
    rcases Int.le_total 0 k with h | h
    · rw [Int.tdiv_eq_ediv_of_nonneg h]
      have := Int.ediv_le_self d h
      have := Int.ediv_nonneg h (show 0 ≤ d by omega)
      omega
    · have e : k.tdiv d = - ((-k) / d) := by
        have := Int.neg_tdiv (-k) d
        rw [Int.neg_neg] at this
        rw [this, Int.tdiv_eq_ediv_of_nonneg (show 0 ≤ -k by omega)]
      have := Int.ediv_le_self d (show 0 ≤ -k by omega)
      have := Int.ediv_nonneg (show 0 ≤ -k by omega) (show 0 ≤ d by omega)
      omega
  obtain ⟨q, hq⟩ : ∃ q, k.tdiv d = q := ⟨_, rfl⟩
  rw [hq] at hb hz
  have b0 := hb.1
  have b1 := hb.2
  have hd0 : d ≠ 0 := by omega
  have hd2 : d ≠ -1 := by omega
  have C := Lib.hid (fun W => within_any q n W b0 b1 hn hn1)
  rw [hz] at C
  clear hb hz
  go_enter Try.func19, Try.ntmps19
  go_wp2_with (go_at_call 11; refine (C.out _).mono ?_; rintro e w' ⟨rfl, rfl⟩)
  go_ret
  exact ⟨rfl, rfl⟩

theorem pnumber_any (A : Option Addr) (n c : Nat) (zs : List Int) (a g : Int) (w : World) (hg : gotW zs n a = g) (hr : Row .u8 w w.heap.size A n zs) (hx : Bytes8 zs) (hn : n ≤ 100000) :
    Calls Try.prog 52 #[.slice A n c, .int .i64 a] w (Quiet (.int .i64 g) w) := by
  obtain ⟨b1, b2⟩ := gotW_bounds hx n a
  rw [hg] at b1 b2
  have HR := Lib.hid hr
  have HX := Lib.hid hx
  have HG := Lib.hid hg
  clear hr hx hg
  go_enter Try.func52, Try.ntmps52
  go_wp2_with (go_at_call 76; refine (wget_any A n c zs a _ HR.out HX.out hn).mono ?_; rintro e w' ⟨rfl, d, rfl⟩; rw [HG.out])
  go_ret
  exact ⟨rfl, d, rfl⟩

section
variable (A : Option Addr) (n c : Nat) (zs : List Int) (w : World)

end

theorem and1 (i : Nat) (h : i < 9223372036854775808) : bits .and .i64 (i : Int) 1 = ((i % 2 : Nat) : Int) := by
  have ea : (BitVec.ofInt 64 (i : Int)).toNat = i := by rw [BitVec.ofInt_natCast, BitVec.toNat_ofNat]; exact Nat.mod_eq_of_lt (by omega)
  show IntKind.i64.wrap ((BitVec.ofInt 64 (i : Int) &&& BitVec.ofInt 64 1).toNat : Int) = _
  rw [BitVec.toNat_and, ea]
  have e : i &&& (BitVec.ofInt 64 1).toNat = i % 2 := Nat.and_two_pow_sub_one_eq_mod i 1
  rw [e]
  exact IntWalk.i64_in _ (by omega)
set_option maxRecDepth 100000 in
theorem punpacked_no (A : Option Addr) (m c : Nat) (n : Int) (w : World) (n0 : 0 ≤ n) (n1 : n ≤ 65535) (h : ¬ (m : Int) = n * 2) (hm : m ≤ 1000000) :
    Calls Try.prog 54 #[.slice A m c, .int .i64 n] w fun e w' => e = .returned (.tuple #[.slice none 0 0, .bool false]) ∧ w = w' := by
  have ea := and1 m (by omega)
  obtain ⟨r, hr⟩ : ∃ r, ((m % 2 : Nat) : Int) = r := ⟨_, rfl⟩
  rw [hr] at ea
  by_cases hz : r = 0
  · subst hz
    have hq : ¬ (m : Int) / 2 = n := by omega
    go_enter Try.func54, Try.ntmps54
    go_wp2
    go_ret2
    exact ⟨rfl, rfl⟩
  · go_enter Try.func54, Try.ntmps54
    go_wp2
    go_ret2
    exact ⟨rfl, rfl⟩

/-- The words that lie there, when k of n have been laid. -/
def wol (zs : List Int) (n k : Nat) : List Int := wordsAt zs 0 k ++ List.replicate (n - k) 0
theorem wol_length (zs : List Int) (n k : Nat) (h : k ≤ n) : (wol zs n k).length = n := by simp [wol, wordsAt_length]; omega
theorem wol_step (zs : List Int) (n k : Nat) (h : k < n) : (wol zs n k).set k (wordAt zs (2 * k)) = wol zs n (k + 1) := by
  unfold wol
  rw [wordsAt_succ, List.set_append_right _ _ (by rw [wordsAt_length]; omega), wordsAt_length, Nat.sub_self, List.append_assoc, Nat.zero_add]
  obtain ⟨m, hm⟩ : ∃ m, n - k = m + 1 := ⟨n - k - 1, by omega⟩
  rw [hm, show n - (k + 1) = m by omega]
  rfl

set_option maxRecDepth 100000 in
set_option maxHeartbeats 1000000 in
theorem punpacked_yes (A : Option Addr) (n m c : Nat) (y : Int) (zs : List Int) (w : World) (hm : m = 2 * n) (hy : y = (n : Int)) (hr : Row .u8 w w.heap.size A m zs) (hx : Bytes8 zs) (hn : n ≤ 1000) :
    Calls Try.prog 54 #[.slice A m c, .int .i64 y] w fun e w' => e = .returned (.tuple #[.slice (some ⟨w.heap.size, 0, none⟩) n n, .bool true]) ∧ Whole .u16 w' w.heap.size 25 (wordsAt zs 0 n) ∧ Below w.heap.size w w' := by
  subst hm hy
  have hmk := make_any (P := Try.prog) 22 25 (.int .u16 0) 2 Try.underlying22 infoW rfl n (by omega) (by omega)
  have HR := Lib.hid hr
  have HX := Lib.hid hx
  have HS : Hid (Whole .u16 (w.alloc (.cells (Array.replicate n (Value.int .u16 0)) 25)) w.heap.size 25 (wol zs n 0)) := by
    unfold Whole wol wordsAt
    simp only [List.range_zero, List.map_nil, List.nil_append, Nat.sub_zero, List.map_replicate, List.toArray_replicate]
    exact heap_alloc_new w _
  have HBS := Lib.hid ((Below.refl w.heap.size w).alloc (Nat.le_refl _) (.cells (Array.replicate n (Value.int .u16 0)) 25))
  have ea := and1 (2 * n) (by omega)
  rw [Nat.mul_mod_right] at ea
  have hne : (((2 * n : Nat) : Int)) / 2 = (n : Int) := by omega
  clear hr hx
  go_enter Try.func54, Try.ntmps54
  go_wp2
  go_loopw [7, 22] (fun u i wr => ∃ (k : Nat), k ≤ n ∧ i = .int .i64 (k : Int) ∧ Hid (Whole .u16 wr w.heap.size 25 (wol zs n k)) ∧ Hid (Below w.heap.size w wr)) (fun _ i _ => n - (intOf i).toNat)
  case atStart => exact ⟨0, by omega, rfl, HS, HBS⟩
  case round =>
    obtain ⟨k, hk, rfl, HW, HB⟩ := hrel
    by_cases hlt : k < n
    · have hi1 : (k : Int) < (n : Int) := by omega
      have HR2 := Lib.hid ((HR.out.below HB.out).more HB.out.size)
      have hc1 := HW.out.cell k (by rw [wol_length _ _ _ hk]; exact hlt)
      have hf1 := HW.out.frozen k
      obtain ⟨z, hz⟩ : ∃ z, wordAt zs (2 * k) = z := ⟨_, rfl⟩
      obtain ⟨z0, z1⟩ := wordAt_bounds HX.out (2 * k)
      rw [hz] at z0 z1
      have hG : gotW zs (2 * n) ((k : Int) * 2) = z := by
        unfold gotW
        rw [if_pos (by omega), show ((k : Int) * 2).toNat = 2 * k by omega, hz]
      have HG := Lib.hid hG
      have HZ := Lib.hid hz
      have wz : IntKind.u16.wrap z = z := IntWalk.u16_in _ (by omega)
      clear hz hG
      go_wp2_with (go_at_call 52; (with_reducible refine (pnumber_any A (2 * n) c zs _ z _ HG.out HR2.out HX.out (by omega)).mono ?_); rintro e w1 ⟨rfl, d1, rfl⟩)
      go_roundw
      case rel =>
        refine ⟨k + 1, by omega, by go_num, ?_, (below_drewN HB.out d1).setCell (Nat.le_refl _) _⟩
        have h := (HW.out.drewN d1).set_ k z
        rw [← HZ.out, wol_step _ _ _ hlt, HZ.out] at h
        exact h
      case measure => simp [intOf]; omega
    · obtain rfl : n = k := by omega
      go_wp2
      go_ret2
      refine ⟨rfl, ?_, HB.out⟩
      have h := HW.out
      unfold wol at h
      rw [Nat.sub_self, List.replicate_zero, List.append_nil] at h
      exact h

section
variable (A : Option Addr) (n c : Nat) (zs : List Int) (w : World)
end

theorem Row.tail {k : IntKind} {w : World} {B b off : Nat} {n l q : Nat} {zs : List Int} (h : Row k w B (some ⟨b, off, none⟩) n zs) (hn : n = l + q) : Row k w B (some ⟨b, off + l, none⟩) q (zs.drop l) := by
  subst hn
  refine ⟨by rw [List.length_drop, h.1]; omega, fun h0 => ?_⟩
  obtain ⟨b', off', e, hb, hc⟩ := h.2 (by omega)
  injection e with e
  injection e with e1 e2
  subst e1 e2
  refine ⟨b, off + l, rfl, hb, fun j hj => ?_⟩
  have := hc (l + j) (by omega)
  rw [Nat.add_assoc, this]
  simp [List.getD]
theorem Bytes8.drop {zs : List Int} (h : Bytes8 zs) (l : Nat) : Bytes8 (zs.drop l) := fun x hx => h x (List.mem_of_mem_drop hx)
theorem row_none {k : IntKind} {w : World} {B : Nat} {A : Option Addr} {l : Nat} {zs : List Int} (h : zs.length = l) : Row k w B A 0 (zs.drop l) := by
  rw [List.drop_of_length_le (by omega)]
  exact Row.nil _ _ _ _
theorem punpack_at (A : Option Addr) (m c k : Nat) (y : Int) (zs : List Int) (w : World) (hm : (m : Int) = ((nb k : Nat) : Int)) (hy : y = (k : Int)) (hr : Row .u8 w w.heap.size A m zs) (hx : Bytes8 zs) (hk : k ≤ 100000) :
    Calls Try.prog 53 #[.slice A m c, .int .i64 y] w fun e w' => e = .returned (.tuple #[.slice (some ⟨w.heap.size, 0, none⟩) k k, .bool true]) ∧ WholeV w' w.heap.size 4 ((unb zs k).map Value.bool) ∧ Below w.heap.size w w' := by
  obtain rfl : m = nb k := by omega
  subst hy
  exact unpack_yes A k c zs w hr hx hk
theorem punpack_own (A : Option Addr) (m c k : Nat) (y : Int) (zs : List Int) (w : World) (hm : m = nb k) (hy : y = (k : Int)) (hr : Row .u8 w w.heap.size A m zs) (hx : Bytes8 zs) (hk : k ≤ 100000) :
    Calls Try.prog 53 #[.slice A m c, .int .i64 y] w fun e w' => ∃ G g, e = .returned (.tuple #[.slice G k g, .bool true]) ∧ w'.ownsRow w.heap.size 4 1 (.slice G k g) k ((unb zs k).map Value.bool) ∧ Below w.heap.size w w' := by
  refine (punpack_at A m c k y zs w (by omega) hy hr hx hk).mono ?_
  rintro e w' ⟨rfl, ho, hb⟩
  exact ⟨_, _, rfl, own_of_whole ho (Nat.le_refl _) (by simp [unb_length]) hk, hb⟩
theorem andNot128 (x : Int) (h0 : 0 ≤ x) (h1 : x ≤ 255) : bits .andNot .u8 x 128 = x % 128 :=
  byte_cases (p := fun x => bits .andNot .u8 x 128 = x % 128) (by decide +kernel) x h0 h1
theorem and128 (x : Int) (h0 : 0 ≤ x) (h1 : x ≤ 255) : bits .and .u8 x 128 = x / 128 * 128 :=
  byte_cases (p := fun x => bits .and .u8 x 128 = x / 128 * 128) (by decide +kernel) x h0 h1
theorem or128 (x : Int) (h0 : 0 ≤ x) (h1 : x ≤ 255) : bits .or .u8 x 128 = x % 128 + 128 :=
  byte_cases (p := fun x => bits .or .u8 x 128 = x % 128 + 128) (by decide +kernel) x h0 h1

section
variable (A : Option Addr) (n c : Nat) (zs : List Int) (w : World)

theorem psz_list (f q : Int) (hr : Row .u8 w w.heap.size A n zs) (hx : Bytes8 zs) (hn : n ≤ 1000) (h1 : 2 ≤ n) (h0 : zs.getD 0 0 = f) (hf : f = 1 ∨ f = 2 ∨ f = 3 ∨ f = 4 ∨ f = 23) (hq : zs.getD 1 0 = q) :
    Calls Try.prog 51 #[.slice A n c] w fun e w' => e = .returned (.int .i64 (2 + q)) ∧ w = w' := by
  obtain ⟨b, off, rfl, hb, hcell⟩ := hr.2 (by omega)
  have hc0 : w.cell? ⟨b, off, none⟩ = some (.int .u8 f) := by
    have := hcell 0 (by omega)
    rwa [Nat.add_zero, h0] at this
  have hc1 := hcell 1 (by omega)
  rw [hq] at hc1
  have hbq := hx.at_ 1
  change 0 ≤ zs.getD 1 0 ∧ zs.getD 1 0 ≤ 255 at hbq
  rw [hq] at hbq
  have q0 := hbq.1
  have q1 := hbq.2
  have hn0 : (0 : Int) < (n : Int) := by omega
  have hn1 : (1 : Int) < (n : Int) := by omega
  clear hr hx hcell h0 hq hbq
  rcases hf with rfl | rfl | rfl | rfl | rfl
  all_goals
    go_enter Try.func51, Try.ntmps51
    go_wp2
    go_ret
    exact ⟨ret_int (by omega), rfl⟩
theorem psz_pair (f : Int) (hr : Row .u8 w w.heap.size A n zs) (hn : n ≤ 1000) (h1 : 2 ≤ n) (h0 : zs.getD 0 0 = f) (hf : f = 5 ∨ f = 6 ∨ f = 15 ∨ f = 16) :
    Calls Try.prog 51 #[.slice A n c] w fun e w' => e = .returned (.int .i64 5) ∧ w = w' := by
  obtain ⟨b, off, rfl, hb, hcell⟩ := hr.2 (by omega)
  have hc0 : w.cell? ⟨b, off, none⟩ = some (.int .u8 f) := by
    have := hcell 0 (by omega)
    rwa [Nat.add_zero, h0] at this
  have hn0 : (0 : Int) < (n : Int) := by omega
  clear hr hcell h0
  rcases hf with rfl | rfl | rfl | rfl
  all_goals
    go_enter Try.func51, Try.ntmps51
    go_wp2
    go_ret
    exact ⟨rfl, rfl⟩
theorem psz_22 (hr : Row .u8 w w.heap.size A n zs) (hn : n ≤ 1000) (h1 : 2 ≤ n) (h0 : zs.getD 0 0 = 22) :
    Calls Try.prog 51 #[.slice A n c] w fun e w' => e = .returned (.int .i64 7) ∧ w = w' := by
  obtain ⟨b, off, rfl, hb, hcell⟩ := hr.2 (by omega)
  have hc0 : w.cell? ⟨b, off, none⟩ = some (.int .u8 22) := by
    have := hcell 0 (by omega)
    rwa [Nat.add_zero, h0] at this
  have hn0 : (0 : Int) < (n : Int) := by omega
  clear hr hcell h0
  go_enter Try.func51, Try.ntmps51
  go_wp2
  go_ret
  exact ⟨rfl, rfl⟩
theorem psz_43 (hr : Row .u8 w w.heap.size A n zs) (hn : n ≤ 1000) (h1 : 2 ≤ n) (h0 : zs.getD 0 0 = 43) :
    Calls Try.prog 51 #[.slice A n c] w fun e w' => e = .returned (.int .i64 (n : Int)) ∧ w = w' := by
  obtain ⟨b, off, rfl, hb, hcell⟩ := hr.2 (by omega)
  have hc0 : w.cell? ⟨b, off, none⟩ = some (.int .u8 43) := by
    have := hcell 0 (by omega)
    rwa [Nat.add_zero, h0] at this
  have hn0 : (0 : Int) < (n : Int) := by omega
  clear hr hcell h0
  go_enter Try.func51, Try.ntmps51
  go_wp2
  go_ret
  exact ⟨rfl, rfl⟩
theorem psz_no (f : Int) (hr : Row .u8 w w.heap.size A n zs) (hx : Bytes8 zs) (hn : n ≤ 1000) (h1 : 2 ≤ n) (h0 : zs.getD 0 0 = f) (hf : NoFn f) :
    Calls Try.prog 51 #[.slice A n c] w fun e w' => e = .returned (.int .i64 2) ∧ w = w' := by
  obtain ⟨b, off, rfl, hb, hcell⟩ := hr.2 (by omega)
  have hc0 : w.cell? ⟨b, off, none⟩ = some (.int .u8 f) := by
    have := hcell 0 (by omega)
    rwa [Nat.add_zero, h0] at this
  have hbq := hx.at_ 0
  change 0 ≤ zs.getD 0 0 ∧ zs.getD 0 0 ≤ 255 at hbq
  rw [h0] at hbq
  have q0 := hbq.1
  have q1 := hbq.2
  have hn0 : (0 : Int) < (n : Int) := by omega
  obtain ⟨g1, g2, g3, g4, g5, g6, g15, g16, g22, g23, g43⟩ := hf
  clear hr hcell h0 hbq hx
  go_enter Try.func51, Try.ntmps51
  go_wp2
  go_ret
  exact ⟨rfl, rfl⟩
end

section
variable (A : Option Addr) (n c : Nat) (zs : List Int) (m : Int) (w : World)

set_option maxRecDepth 100000 in
set_option maxHeartbeats 600000 in
theorem pfT_few (hn : n < 2) :
    Calls Try.prog 26 #[.slice A n c, .int .i64 m] w fun e w' => e = .returned (.tuple #[.agg #[.int .i64 0, .int .i64 0, .slice none 0 0, .slice none 0 0, .int .i64 0, .int .i64 0, .int .u16 0, .int .u16 0, .int .u16 0, .int .i64 0, .int .i64 0, .bool false, .int .i64 0, .slice none 0 0], .bool false]) ∧ Below w.heap.size w w' := by
  have hl' : (n : Int) < 2 := by omega
  go_enter Try.func26, Try.ntmps26
  go_wp2
  exact bodyPost_ret (v := .tuple #[.agg #[.int .i64 0, .int .i64 0, .slice none 0 0, .slice none 0 0, .int .i64 0, .int .i64 0, .int .u16 0, .int .u16 0, .int .u16 0, .int .i64 0, .int .i64 0, .bool false, .int .i64 0, .slice none 0 0], .bool false]) (by simp [results, Try.results26, go_sem]) rfl ⟨rfl, (Below.refl _ _).alloc (Nat.le_refl _) _⟩

set_option maxRecDepth 100000 in
set_option maxHeartbeats 600000 in
theorem pfT_exc (f x : Int) (hr : Row .u8 w w.heap.size A n zs) (hx : Bytes8 zs) (hn : n = 2) (h0 : zs.getD 0 0 = f) (hf : 128 ≤ f) (h1 : zs.getD 1 0 = x) :
    Calls Try.prog 26 #[.slice A n c, .int .i64 m] w fun e w' => e = .returned (.tuple #[.agg #[.int .i64 (f - 128), .int .i64 x, .slice none 0 0, .slice none 0 0, .int .i64 0, .int .i64 0, .int .u16 0, .int .u16 0, .int .u16 0, .int .i64 0, .int .i64 0, .bool false, .int .i64 0, .slice none 0 0], .bool (decide (x ≠ 0))]) ∧ Below w.heap.size w w' := by
  subst hn
  obtain ⟨b, off, rfl, hb, hcell⟩ := hr.2 (by omega)
  have hc0' : w.cell? ⟨b, off, none⟩ = some (.int .u8 f) := by
    have := hcell 0 (by omega)
    rwa [Nat.add_zero, h0] at this
  have hc1' := hcell 1 (by omega)
  rw [h1] at hc1'
  have hc0 : (w.alloc (.cells #[.int .i64 0, .int .i64 0, .slice none 0 0, .slice none 0 0, .int .i64 0, .int .i64 0, .int .u16 0, .int .u16 0, .int .u16 0, .int .i64 0, .int .i64 0, .bool false, .int .i64 0, .slice none 0 0] 28)).cell? ⟨b, off, none⟩ = some (.int .u8 f) := by
    rw [World.cell?_alloc_lt w _ ⟨b, off, none⟩ hb]
    exact hc0'
  have hbf := hx.at_ 0
  change 0 ≤ zs.getD 0 0 ∧ zs.getD 0 0 ≤ 255 at hbf
  rw [h0] at hbf
  have f1 := hbf.2
  have hbx := hx.at_ 1
  change 0 ≤ zs.getD 1 0 ∧ zs.getD 1 0 ≤ 255 at hbx
  rw [h1] at hbx
  have x0 := hbx.1
  have x1 := hbx.2
  have ea : bits .andNot .u8 f 128 = f - 128 := by rw [andNot128 f (by omega) f1]; omega
  have eb : bits .and .u8 f 128 = 128 := by rw [and128 f (by omega) f1]; omega
  have hkw : Below w.heap.size w (w.alloc (.cells #[.int .i64 0, .int .i64 0, .slice none 0 0, .slice none 0 0, .int .i64 0, .int .i64 0, .int .u16 0, .int .u16 0, .int .u16 0, .int .i64 0, .int .i64 0, .bool false, .int .i64 0, .slice none 0 0] 28)) := (Below.refl _ _).alloc (Nat.le_refl _) _
  have HR := Lib.hid ((hr.below hkw).more hkw.size)
  have HX := Lib.hid hx
  have H0 := Lib.hid h0
  have HNo : Hid (NoFn f) := by constructor <;> omega
  clear hr hx hcell h0 h1 hbf hbx hkw
  go_enter Try.func26, Try.ntmps26
  go_wp2_with (go_at_call 51; refine (psz_no _ 2 c zs _ f HR.out HX.out (by omega) (by omega) H0.out HNo.out).mono ?_; rintro e w' ⟨rfl, rfl⟩)
  go_region_with fail
  all_goals
    go_wp2
    refine bodyPost_ret (v := .tuple #[.agg #[.int .i64 (f - 128), .int .i64 x, .slice none 0 0, .slice none 0 0, .int .i64 0, .int .i64 0, .int .u16 0, .int .u16 0, .int .u16 0, .int .i64 0, .int .i64 0, .bool false, .int .i64 0, .slice none 0 0], .bool (decide (x ≠ 0))]) (by simp [results, Try.results26, go_sem]; rfl) rfl ⟨rfl, ?_⟩
    exact below_drewN (((Below.refl _ _).alloc (Nat.le_refl _) _).alloc (by simp) _) 1
end

theorem refunpack_no (A : Option Addr) (m c : Nat) (n : Int) (w : World) (h0 : -9223372036854775808 ≤ n) (h1 : n ≤ 9223372036854775807) (h : n < 0 ∨ nbI n ≠ m) :
    Calls Try.prog 61 #[.slice A m c, .int .i64 n] w fun e w' => e = .returned (.tuple #[.slice none 0 0, .bool false]) ∧ w = w' := by
  by_cases hn : n < 0
  · clear h
    go_enter Try.func61, Try.ntmps61
    go_wp2
    go_ret2
    exact ⟨rfl, rfl⟩
  · have hne : (m : Int) ≠ nbI n := by omega
    obtain ⟨x, hx⟩ : ∃ x, x = nbI n := ⟨_, rfl⟩
    rw [← hx] at hne
    have hd : decide ((m : Int) = x) = false := by simp; exact hne
    have HC : Hid (∀ W, Calls Try.prog 79 #[.int .i64 n] W fun e w' => e = .returned (.int .i64 x) ∧ W = w') := fun W => by rw [hx]; exact refbytes_any n W h0 h1
    clear h hx
    go_enter Try.func61, Try.ntmps61
    go_wp2_with (go_at_call 79; refine (HC.out _).mono ?_; rintro e w1 ⟨rfl, rfl⟩)
    go_ret2
    exact ⟨rfl, rfl⟩

theorem refunpack_yes (A : Option Addr) (n c : Nat) (zs : List Int) (w : World) (hr : Row .u8 w w.heap.size A (nb n) zs) (hx : Bytes8 zs) (hn : n ≤ 100000) :
    Calls Try.prog 61 #[.slice A (nb n) c, .int .i64 (n : Int)] w fun e w' => ∃ B d, e = .returned (.tuple #[.slice B n d, .bool true]) ∧ BRow w' w'.heap.size B n (unb zs n) ∧ Below w.heap.size w w' := by
  have hnb : nb n ≤ 100000 := by have := nb_le n; omega
  have HR := Lib.hid hr
  have HX := Lib.hid hx
  have HB0 := Lib.hid (Below.refl w.heap.size w)
  clear hr hx
  go_enter Try.func61, Try.ntmps61
  go_wp2_with (go_at_call 79; refine (refbytes_nat _ _ (by omega)).mono ?_; rintro e w1 ⟨rfl, rfl⟩)
  go_loopw [6, 7] (fun b i wr => ∃ (k : Nat) (B : Option Addr) (cb : Nat), k ≤ n ∧ i = .int .i64 (k : Int) ∧ b = .slice B k cb ∧ Hid (wr.ownsRow w.heap.size 4 1 (.slice B k cb) k ((unb zs k).map Value.bool)) ∧ Hid (Below w.heap.size w wr)) (fun _ i _ => n - (intOf i).toNat)
  case atStart => exact ⟨0, none, 0, by omega, rfl, rfl, own_none _ _ _, HB0⟩
  case round =>
    obtain ⟨k, B, cb, hk, rfl, rfl, HK, HB⟩ := hrel
    by_cases hlt : k < n
    · have hi1 : (k : Int) < (n : Int) := by omega
      have HR2 := Lib.hid ((HR.out.below HB.out).more HB.out.size)
      go_wp2_with (first
        | (go_at_call 80
           refine (bit_any A (nb n) c zs (k : Int) _ HR2.out HX.out (by omega) (by omega) hnb).mono ?_
           rintro e w1 ⟨rfl, d1, rfl⟩
           have hw : WholeV ((wr.drewN d1).alloc (.cells #[.bool (bitI zs k)] 4)) (wr.drewN d1).heap.size 4 [.bool (bitI zs k)] := heap_alloc_new _ _
           have HW := Lib.hid hw.row
           have HO1 := Lib.hid ((show (wr.drewN d1).ownsRow w.heap.size 4 1 (.slice B k cb) k ((unb zs k).map Value.bool) from HK.out).alloc (o := .cells #[.bool (bitI zs k)] 4))
           have HB1 := Lib.hid ((below_drewN HB.out d1).alloc HB.out.size (.cells #[.bool (bitI zs k)] 4))
           clear hw)
        | (at_builtin
           refine wpList_append_row _ (o := ⟨some 27, _, _, _, _, _⟩) rfl (.tmp 22) (.tmp 26) 23 rfl w.heap.size 4 (.bool false) 1 Try.underlying23 infoBool rfl (.slice B k cb) k _ rfl HO1.out _ (some ⟨wr.heap.size, 0, none⟩) 1 1 [.bool (bitI zs k)] rfl HW.out (bools_oneCell [bitI zs k]) (by omega) (by omega) (by have := HB1.out.size; omega) ?_
           intro v2 w2 hown2 hg2 hat2
           obtain ⟨B2, c2, rfl⟩ := own_slice hown2
           have HO2 := Lib.hid hown2
           have HB2 := Lib.hid (below_append HB1.out HO1.out hg2 (by have := HB1.out.size; omega))
           clear hown2 hg2 hat2))
      go_roundw
      case rel =>
        refine ⟨k + 1, B2, c2, by omega, by go_num, rfl, ?_, HB2⟩
        have h := HO2.out
        rw [bitI_nat] at h
        rw [unb_succ, List.map_append]
        exact h
      case measure => simp [intOf]; omega
    · obtain rfl : n = k := by omega
      go_wp2
      go_ret2
      exact ⟨B, cb, rfl, (own_row HK.out).bools, HB.out⟩

theorem setB_same (zs : List Int) (k : Nat) (v : Bool) (hk : k / 8 < zs.length) (h : bitB zs k = v) : setB zs k v = zs := by
  unfold bitB at h
  unfold setB sb
  rw [if_pos h]
  apply List.ext_getElem?
  intro j
  rw [List.getElem?_set]
  by_cases e : k / 8 = j
  · subst e; simp [hk]
  · simp [e]

theorem rrunpack_own (A : Option Addr) (n c : Nat) (zs : List Int) (w : World) (hr : Row .u8 w w.heap.size A (nb n) zs) (hx : Bytes8 zs) (hn : n ≤ 100000) :
    Calls Try.prog 61 #[.slice A (nb n) c, .int .i64 (n : Int)] w fun e w' => ∃ B d, e = .returned (.tuple #[.slice B n d, .bool true]) ∧ w'.ownsRow w.heap.size 4 1 (.slice B n d) n ((unb zs n).map Value.bool) ∧ Below w.heap.size w w' := by
  have hnb : nb n ≤ 100000 := by have := nb_le n; omega
  have HR := Lib.hid hr
  have HX := Lib.hid hx
  have HB0 := Lib.hid (Below.refl w.heap.size w)
  clear hr hx
  go_enter Try.func61, Try.ntmps61
  go_wp2_with (go_at_call 79; refine (refbytes_nat _ _ (by omega)).mono ?_; rintro e w1 ⟨rfl, rfl⟩)
  go_loopw [6, 7] (fun b i wr => ∃ (k : Nat) (B : Option Addr) (cb : Nat), k ≤ n ∧ i = .int .i64 (k : Int) ∧ b = .slice B k cb ∧ Hid (wr.ownsRow w.heap.size 4 1 (.slice B k cb) k ((unb zs k).map Value.bool)) ∧ Hid (Below w.heap.size w wr)) (fun _ i _ => n - (intOf i).toNat)
  case atStart => exact ⟨0, none, 0, by omega, rfl, rfl, own_none _ _ _, HB0⟩
  case round =>
    obtain ⟨k, B, cb, hk, rfl, rfl, HK, HB⟩ := hrel
    by_cases hlt : k < n
    · have hi1 : (k : Int) < (n : Int) := by omega
      have HR2 := Lib.hid ((HR.out.below HB.out).more HB.out.size)
      go_wp2_with (first
        | (go_at_call 80
           refine (bit_any A (nb n) c zs (k : Int) _ HR2.out HX.out (by omega) (by omega) hnb).mono ?_
           rintro e w1 ⟨rfl, d1, rfl⟩
           have hw : WholeV ((wr.drewN d1).alloc (.cells #[.bool (bitI zs k)] 4)) (wr.drewN d1).heap.size 4 [.bool (bitI zs k)] := heap_alloc_new _ _
           have HW := Lib.hid hw.row
           have HO1 := Lib.hid ((show (wr.drewN d1).ownsRow w.heap.size 4 1 (.slice B k cb) k ((unb zs k).map Value.bool) from HK.out).alloc (o := .cells #[.bool (bitI zs k)] 4))
           have HB1 := Lib.hid ((below_drewN HB.out d1).alloc HB.out.size (.cells #[.bool (bitI zs k)] 4))
           clear hw)
        | (at_builtin
           refine wpList_append_row _ (o := ⟨some 27, _, _, _, _, _⟩) rfl (.tmp 22) (.tmp 26) 23 rfl w.heap.size 4 (.bool false) 1 Try.underlying23 infoBool rfl (.slice B k cb) k _ rfl HO1.out _ (some ⟨wr.heap.size, 0, none⟩) 1 1 [.bool (bitI zs k)] rfl HW.out (bools_oneCell [bitI zs k]) (by omega) (by omega) (by have := HB1.out.size; omega) ?_
           intro v2 w2 hown2 hg2 hat2
           obtain ⟨B2, c2, rfl⟩ := own_slice hown2
           have HO2 := Lib.hid hown2
           have HB2 := Lib.hid (below_append HB1.out HO1.out hg2 (by have := HB1.out.size; omega))
           clear hown2 hg2 hat2))
      go_roundw
      case rel =>
        refine ⟨k + 1, B2, c2, by omega, by go_num, rfl, ?_, HB2⟩
        have h := HO2.out
        rw [bitI_nat] at h
        rw [unb_succ, List.map_append]
        exact h
      case measure => simp [intOf]; omega
    · obtain rfl : n = k := by omega
      go_wp2
      go_ret2
      exact ⟨B, cb, rfl, HK.out, HB.out⟩

theorem rrunpack_at (A : Option Addr) (m c k : Nat) (y : Int) (zs : List Int) (w : World) (hm : (m : Int) = ((nb k : Nat) : Int)) (hy : y = (k : Int)) (hr : Row .u8 w w.heap.size A m zs) (hx : Bytes8 zs) (hk : k ≤ 100000) :
    Calls Try.prog 61 #[.slice A m c, .int .i64 y] w fun e w' => ∃ B d, e = .returned (.tuple #[.slice B k d, .bool true]) ∧ w'.ownsRow w.heap.size 4 1 (.slice B k d) k ((unb zs k).map Value.bool) ∧ Below w.heap.size w w' := by
  obtain rfl : m = nb k := by omega
  subst hy
  exact rrunpack_own A k c zs w hr hx hk

/-- A request. -/
structure Req where
  fn : Int
  at_ : Int
  n : Int
  v : Int
  an : Int
  orr : Int
  bs : List Bool
  ws : List Int
  ra : Int
  rn : Int
  co : Int
  ob : Int
/-- It is right. -/
def Req.right (r : Req) : Prop := rightP r.fn r.at_ r.n r.v r.an r.orr r.bs.length r.ws.length r.ra r.rn r.co r.ob
instance (r : Req) : Decidable r.right := by unfold Req.right; infer_instance
/-- Its numbers are of their types. -/
def Req.wide (r : Req) : Prop := Wide r.at_ r.n r.v r.an r.orr r.ra r.rn r.co r.ob

/-- The request that bytes of a known function would be, by their length and their form. -/
def cand (zs : List Int) (n : Nat) : Option Req :=
  if zs.getD 0 0 = 5 then (if n = 5 ∧ gotW zs n 3 = 0 then some ⟨5, gotW zs n 1, 0, 0, 0, 0, [], [], 0, 0, 0, 0⟩ else if n = 5 ∧ gotW zs n 3 = 65280 then some ⟨5, gotW zs n 1, 0, 1, 0, 0, [], [], 0, 0, 0, 0⟩ else none)
  else if zs.getD 0 0 = 6 then (if n = 5 then some ⟨6, gotW zs n 1, 0, gotW zs n 3, 0, 0, [], [], 0, 0, 0, 0⟩ else none)
  else if zs.getD 0 0 = 15 then (if 5 < n ∧ (n : Int) = 6 + zs.getD 5 0 ∧ nbI (gotW zs n 3) = zs.getD 5 0 then some ⟨15, gotW zs n 1, gotW zs n 3, 0, 0, 0, unb (zs.drop 6) (gotW zs n 3).toNat, [], 0, 0, 0, 0⟩ else none)
  else if zs.getD 0 0 = 16 then (if 5 < n ∧ (n : Int) = 6 + zs.getD 5 0 ∧ zs.getD 5 0 = gotW zs n 3 * 2 then some ⟨16, gotW zs n 1, gotW zs n 3, 0, 0, 0, [], wordsAt zs 6 (gotW zs n 3).toNat, 0, 0, 0, 0⟩ else none)
  else if zs.getD 0 0 = 22 then (if n = 7 then some ⟨22, gotW zs n 1, 0, 0, gotW zs n 3, gotW zs n 5, [], [], 0, 0, 0, 0⟩ else none)
  else if zs.getD 0 0 = 23 then (if 9 < n ∧ (n : Int) = 10 + zs.getD 9 0 ∧ zs.getD 9 0 = gotW zs n 7 * 2 then some ⟨23, gotW zs n 5, gotW zs n 7, 0, 0, 0, [], wordsAt zs 10 (gotW zs n 7).toNat, gotW zs n 1, gotW zs n 3, 0, 0⟩ else none)
  else if zs.getD 0 0 = 43 then (if n = 4 then some ⟨43, 0, 0, 0, 0, 0, [], [], 0, 0, zs.getD 2 0, zs.getD 3 0⟩ else none)
  else (if n = 5 then some ⟨zs.getD 0 0, gotW zs n 1, gotW zs n 3, 0, 0, 0, [], [], 0, 0, 0, 0⟩ else none)

section
variable {zs : List Int} {n : Nat}
theorem cand_read {f : Int} (h0 : zs.getD 0 0 = f) (hf : f = 1 ∨ f = 2 ∨ f = 3 ∨ f = 4) : cand zs n = if n = 5 then some ⟨f, gotW zs n 1, gotW zs n 3, 0, 0, 0, [], [], 0, 0, 0, 0⟩ else none := by
  unfold cand
  rw [h0]
  rcases hf with rfl | rfl | rfl | rfl <;> rfl
theorem cand_5 (h0 : zs.getD 0 0 = 5) : cand zs n = if n = 5 ∧ gotW zs n 3 = 0 then some ⟨5, gotW zs n 1, 0, 0, 0, 0, [], [], 0, 0, 0, 0⟩ else if n = 5 ∧ gotW zs n 3 = 65280 then some ⟨5, gotW zs n 1, 0, 1, 0, 0, [], [], 0, 0, 0, 0⟩ else none := by
  unfold cand; rw [h0]; rfl
theorem cand_6 (h0 : zs.getD 0 0 = 6) : cand zs n = if n = 5 then some ⟨6, gotW zs n 1, 0, gotW zs n 3, 0, 0, [], [], 0, 0, 0, 0⟩ else none := by
  unfold cand; rw [h0]; rfl
theorem cand_15 (h0 : zs.getD 0 0 = 15) : cand zs n = if 5 < n ∧ (n : Int) = 6 + zs.getD 5 0 ∧ nbI (gotW zs n 3) = zs.getD 5 0 then some ⟨15, gotW zs n 1, gotW zs n 3, 0, 0, 0, unb (zs.drop 6) (gotW zs n 3).toNat, [], 0, 0, 0, 0⟩ else none := by
  unfold cand; rw [h0]; rfl
theorem cand_16 (h0 : zs.getD 0 0 = 16) : cand zs n = if 5 < n ∧ (n : Int) = 6 + zs.getD 5 0 ∧ zs.getD 5 0 = gotW zs n 3 * 2 then some ⟨16, gotW zs n 1, gotW zs n 3, 0, 0, 0, [], wordsAt zs 6 (gotW zs n 3).toNat, 0, 0, 0, 0⟩ else none := by
  unfold cand; rw [h0]; rfl
theorem cand_22 (h0 : zs.getD 0 0 = 22) : cand zs n = if n = 7 then some ⟨22, gotW zs n 1, 0, 0, gotW zs n 3, gotW zs n 5, [], [], 0, 0, 0, 0⟩ else none := by
  unfold cand; rw [h0]; rfl
theorem cand_23 (h0 : zs.getD 0 0 = 23) : cand zs n = if 9 < n ∧ (n : Int) = 10 + zs.getD 9 0 ∧ zs.getD 9 0 = gotW zs n 7 * 2 then some ⟨23, gotW zs n 5, gotW zs n 7, 0, 0, 0, [], wordsAt zs 10 (gotW zs n 7).toNat, gotW zs n 1, gotW zs n 3, 0, 0⟩ else none := by
  unfold cand; rw [h0]; rfl
theorem cand_43 (h0 : zs.getD 0 0 = 43) : cand zs n = if n = 4 then some ⟨43, 0, 0, 0, 0, 0, [], [], 0, 0, zs.getD 2 0, zs.getD 3 0⟩ else none := by
  unfold cand; rw [h0]; rfl
end

/-- What Parse answers: a request and an exception. -/
def parseOf (zs : List Int) (n : Nat) : Req × Int :=
  if n = 0 ∨ 253 < n then (⟨0, 0, 0, 0, 0, 0, [], [], 0, 0, 0, 0⟩, 1)
  else if kKnown (zs.getD 0 0) = false then (⟨zs.getD 0 0, 0, 0, 0, 0, 0, [], [], 0, 0, 0, 0⟩, 1)
  else if zs.getD 0 0 = 43 ∧ n = 1 then (⟨zs.getD 0 0, 0, 0, 0, 0, 0, [], [], 0, 0, 0, 0⟩, 3)
  else if zs.getD 0 0 = 43 ∧ zs.getD 1 0 ≠ 14 then (⟨zs.getD 0 0, 0, 0, 0, 0, 0, [], [], 0, 0, 0, 0⟩, 1)
  else match cand zs n with
    | none => (⟨zs.getD 0 0, 0, 0, 0, 0, 0, [], [], 0, 0, 0, 0⟩, 3)
    | some r => if r.right then (r, 0) else (⟨zs.getD 0 0, 0, 0, 0, 0, 0, [], [], 0, 0, 0, 0⟩, 3)

theorem getD_drop (zs : List Int) (l i : Nat) : (zs.drop l).getD i 0 = zs.getD (l + i) 0 := by simp [List.getD]
theorem wordsAt_drop (zs : List Int) (l k : Nat) : wordsAt (zs.drop l) 0 k = wordsAt zs l k := by
  unfold wordsAt
  apply List.map_congr_left
  intro i _
  unfold wordAt
  rw [getD_drop, getD_drop]
  simp only [Nat.zero_add, Nat.add_assoc]
theorem words_nil : Words [] := fun x hx => by cases hx
theorem wide_cand {zs : List Int} {n : Nat} {r : Req} (hx : Bytes8 zs) (h : cand zs n = some r) : r.wide ∧ Words r.ws := by
  have g1 := gotW_bounds hx n 1
  have g3 := gotW_bounds hx n 3
  have g5 := gotW_bounds hx n 5
  have g7 := gotW_bounds hx n 7
  have b2 : 0 ≤ zs.getD 2 0 ∧ zs.getD 2 0 ≤ 255 := hx.at_ 2
  have b3 : 0 ≤ zs.getD 3 0 ∧ zs.getD 3 0 ≤ 255 := hx.at_ 3
  unfold cand at h
  repeat' split at h
  all_goals first
    | (cases h; done)
    | (injection h with h
       subst h
       refine ⟨?_, ?_⟩
       · constructor <;> (try dsimp only) <;> omega
       · first | exact words_nil | exact wordsAt_words hx _ _)

theorem take_row {w : World} {A : Option Addr} {L : Nat} {zs : List Int} (h : Row .u8 w w.heap.size A L zs) (k : Nat) (hk : k ≤ L) : Row .u8 w w.heap.size A k (zs.take k) := by
  have hl := h.1
  have h2 : Row .u8 w w.heap.size A (k + (L - k)) (zs.take k ++ zs.drop k) := by
    rw [List.take_append_drop, show k + (L - k) = L by omega]
    exact h
  exact h2.front (by rw [List.length_take]; omega)
theorem Bytes8.take {zs : List Int} (h : Bytes8 zs) (k : Nat) : Bytes8 (zs.take k) := fun x hx => h x (List.mem_of_mem_take hx)
theorem ex0 : parseOf [] 0 = (⟨0, 0, 0, 0, 0, 0, [], [], 0, 0, 0, 0⟩, 1) := by kernel_rfl

theorem be_bytes (v : Int) (h0 : 0 ≤ v) (h1 : v ≤ 65535) : Bytes8 (be v) := by
  intro x hx
  simp [be] at hx
  omega
theorem flat_bytes (ws : List Int) (h : Words ws) : Bytes8 (flat ws) := by
  intro x hx
  obtain ⟨w, hw, hm⟩ := List.mem_flatMap.1 hx
  have := h w hw
  exact be_bytes w this.1 this.2 x hm
theorem Bytes8.app {a b : List Int} (ha : Bytes8 a) (hb : Bytes8 b) : Bytes8 (a ++ b) := fun x hx => (List.mem_append.1 hx).elim (ha x) (hb x)
theorem Bytes8.one {a : Int} (h0 : 0 ≤ a) (h1 : a ≤ 255) : Bytes8 [a] := fun x hx => by simp at hx; omega
theorem flat_get (ws : List Int) (i : Nat) (h : i < ws.length) : (flat ws).getD (2 * i) 0 = ws.getD i 0 / 256 ∧ (flat ws).getD (2 * i + 1) 0 = ws.getD i 0 % 256 := by
  induction ws generalizing i with
  | nil => simp at h
  | cons x xs ih =>
    have e : flat (x :: xs) = be x ++ flat xs := rfl
    rw [e]
    rcases i with _ | i
    · simp [be]
    · have := ih i (by simpa using h)
      simpa [be, List.getD, Nat.mul_succ] using this
theorem wordsAt_flat (ws : List Int) (h : Words ws) : wordsAt (flat ws) 0 ws.length = ws := by
  apply List.ext_getElem
  · rw [wordsAt_length]
  · intro i h1 h2
    have hg := flat_get ws i h2
    have hw := h _ (List.getElem_mem h2)
    simp only [wordsAt, List.getElem_map, List.getElem_range, Nat.zero_add, wordAt]
    rw [hg.1, hg.2]
    simp [List.getD, h2]
    omega

theorem parse_wrong (zs : List Int) (n : Nat) (f : Int) (h0 : zs.getD 0 0 = f) (hk : kKnown f = true) (h1 : 1 ≤ n) (h2 : n ≤ 253) (h43 : f = 43 → n = 1 ∨ zs.getD 1 0 = 14) (hc : cand zs n = none) : parseOf zs n = (⟨f, 0, 0, 0, 0, 0, [], [], 0, 0, 0, 0⟩, 3) := by
  unfold parseOf
  rw [if_neg (by omega), h0, if_neg (by rw [hk]; simp)]
  by_cases ha : f = 43 ∧ n = 1
  · rw [if_pos ha]
  · rw [if_neg ha, if_neg (by
      rintro ⟨e, h⟩
      rcases h43 e with h3 | h3
      · exact ha ⟨e, h3⟩
      · exact h h3), hc]
theorem parse_right (zs : List Int) (n : Nat) (f : Int) (r : Req) (h0 : zs.getD 0 0 = f) (hk : kKnown f = true) (h1 : 1 ≤ n) (h2 : n ≤ 253) (h43 : f = 43 → n ≠ 1 ∧ zs.getD 1 0 = 14) (hc : cand zs n = some r) (hr : r.right) : parseOf zs n = (r, 0) := by
  unfold parseOf
  rw [if_neg (by omega), h0, if_neg (by rw [hk]; simp), if_neg (fun h => (h43 h.1).1 h.2), if_neg (fun h => h.2 (h43 h.1).2), hc]
  simp only [hr, if_true]

section
variable (at_ n v an orr : Int) (bs : List Bool) (ws : List Int) (ra rn co ob : Int)
theorem enc_read (f : Int) (hf : f = 1 ∨ f = 2 ∨ f = 3 ∨ f = 4) : enc f at_ n v an orr bs ws ra rn co ob = [f, at_ / 256, at_ % 256, n / 256, n % 256] := by
  rcases hf with rfl | rfl | rfl | rfl <;> rfl
theorem enc_5 : enc 5 at_ n v an orr bs ws ra rn co ob = [5, at_ / 256, at_ % 256, (v * 65280) / 256, (v * 65280) % 256] := rfl
theorem enc_6 : enc 6 at_ n v an orr bs ws ra rn co ob = [6, at_ / 256, at_ % 256, v / 256, v % 256] := rfl
theorem enc_15 : enc 15 at_ n v an orr bs ws ra rn co ob = [15, at_ / 256, at_ % 256, n / 256, n % 256, ((nb bs.length : Nat) : Int)] ++ pk bs bs.length := rfl
theorem enc_16 : enc 16 at_ n v an orr bs ws ra rn co ob = [16, at_ / 256, at_ % 256, n / 256, n % 256, 2 * (ws.length : Int)] ++ flat ws := rfl
theorem enc_22 : enc 22 at_ n v an orr bs ws ra rn co ob = [22, at_ / 256, at_ % 256, an / 256, an % 256, orr / 256, orr % 256] := rfl
theorem enc_23 : enc 23 at_ n v an orr bs ws ra rn co ob = [23, ra / 256, ra % 256, rn / 256, rn % 256, at_ / 256, at_ % 256, n / 256, n % 256, 2 * (ws.length : Int)] ++ flat ws := rfl
theorem enc_43 : enc 43 at_ n v an orr bs ws ra rn co ob = [43, 14, co, ob] := rfl

theorem enc_first (fn : Int) : (enc fn at_ n v an orr bs ws ra rn co ob).getD 0 0 = fn := rfl
theorem enc_length (fn : Int) (hr : rightP fn at_ n v an orr bs.length ws.length ra rn co ob) : 4 ≤ (enc fn at_ n v an orr bs ws ra rn co ob).length ∧ (enc fn at_ n v an orr bs ws ra rn co ob).length ≤ 252 ∧ ((fn = 15 ∨ fn = 16) → 6 ≤ (enc fn at_ n v an orr bs ws ra rn co ob).length) ∧ (fn = 23 → 10 ≤ (enc fn at_ n v an orr bs ws ra rn co ob).length) := by
  have hk := hr.1
  have hfit := hr.2.2.2.2
  unfold fitsP at hfit
  rcases kinds fn with rfl | rfl | rfl | rfl | rfl | rfl | rfl | rfl | rfl | rfl | rfl | h
  case inr.inr.inr.inr.inr.inr.inr.inr.inr.inr.inr => rw [h.known] at hk; cases hk
  case inr.inr.inr.inr.inr.inr.inl =>
    have hm : kMostW 15 = 1968 := rfl
    rw [enc_15, List.length_append, pk_length]
    simp only [List.length_cons, List.length_nil]
    unfold nb
    omega
  case inr.inr.inr.inr.inr.inr.inr.inl =>
    have hm : kMostW 16 = 123 := rfl
    rw [enc_16, List.length_append, flat_length]
    simp only [List.length_cons, List.length_nil]
    omega
  case inr.inr.inr.inr.inr.inr.inr.inr.inr.inl =>
    have hm : kMostW 23 = 121 := rfl
    rw [enc_23, List.length_append, flat_length]
    simp only [List.length_cons, List.length_nil]
    omega
  all_goals simp [enc, be]
theorem enc_bytes (fn : Int) (hr : rightP fn at_ n v an orr bs.length ws.length ra rn co ob) (hw : Wide at_ n v an orr ra rn co ob) (hx : Words ws) : Bytes8 (enc fn at_ n v an orr bs ws ra rn co ob) := by
  have hk := hr.1
  obtain ⟨_, hpl, ⟨a0, a1⟩, ⟨r0, r1⟩, hfit⟩ := hr
  unfold plainP at hpl
  unfold fitsP at hfit
  have v0 := hw.v0
  have v1 := hw.v1
  have x0 := hw.x0
  have x1 := hw.x1
  have o0 := hw.o0
  have o1 := hw.o1
  rcases kinds fn with rfl | rfl | rfl | rfl | rfl | rfl | rfl | rfl | rfl | rfl | rfl | h
  case inr.inr.inr.inr.inr.inr.inr.inr.inr.inr.inr => rw [h.known] at hk; cases hk
  case inr.inr.inr.inr.inr.inr.inl =>
    have hm : kMostW 15 = 1968 := rfl
    have hb : nb bs.length ≤ 255 := by unfold nb; omega
    rw [enc_15]
    refine Bytes8.app ?_ (pk_bytes _ _)
    intro x hx; simp at hx; omega
  case inr.inr.inr.inr.inr.inr.inr.inl =>
    have hm : kMostW 16 = 123 := rfl
    rw [enc_16]
    refine Bytes8.app ?_ (flat_bytes ws hx)
    intro x hx; simp at hx; omega
  case inr.inr.inr.inr.inr.inr.inr.inr.inr.inl =>
    have hm : kMostW 23 = 121 := rfl
    have hm2 : kMostR 23 = 125 := rfl
    rw [enc_23]
    refine Bytes8.app ?_ (flat_bytes ws hx)
    intro x hx; simp at hx; omega
  case inl => have hm : kMostR 1 = 2000 := rfl; rw [enc_read _ _ _ _ _ _ _ _ _ _ _ _ (by omega)]; intro x hx; simp at hx; omega
  case inr.inl => have hm : kMostR 2 = 2000 := rfl; rw [enc_read _ _ _ _ _ _ _ _ _ _ _ _ (by omega)]; intro x hx; simp at hx; omega
  case inr.inr.inl => have hm : kMostR 3 = 125 := rfl; rw [enc_read _ _ _ _ _ _ _ _ _ _ _ _ (by omega)]; intro x hx; simp at hx; omega
  case inr.inr.inr.inl => have hm : kMostR 4 = 125 := rfl; rw [enc_read _ _ _ _ _ _ _ _ _ _ _ _ (by omega)]; intro x hx; simp at hx; omega
  all_goals
    intro x hx
    simp [enc, be] at hx
    omega
theorem cand_off (fn : Int) (hr : rightP fn at_ n v an orr bs.length ws.length ra rn co ob) (zs : List Int) (m : Nat) (h0 : zs.getD 0 0 = fn) (h5 : fn = 15 ∨ fn = 16 → 5 < m → zs.getD 5 0 = (enc fn at_ n v an orr bs ws ra rn co ob).getD 5 0) (h9 : fn = 23 → 9 < m → zs.getD 9 0 = (enc fn at_ n v an orr bs ws ra rn co ob).getD 9 0) (hm : m ≠ (enc fn at_ n v an orr bs ws ra rn co ob).length) : cand zs m = none := by
  have hk := hr.1
  rcases kinds fn with rfl | rfl | rfl | rfl | rfl | rfl | rfl | rfl | rfl | rfl | rfl | h
  case inr.inr.inr.inr.inr.inr.inr.inr.inr.inr.inr => rw [h.known] at hk; cases hk
  case inr.inr.inr.inr.inr.inr.inl =>
    rw [cand_15 h0, if_neg]
    rintro ⟨h1, h2, h3⟩
    have e := h5 (.inl rfl) h1
    rw [enc_15] at e hm
    rw [List.length_append, pk_length] at hm
    simp at e hm
    simp at h2
    omega
  case inr.inr.inr.inr.inr.inr.inr.inl =>
    rw [cand_16 h0, if_neg]
    rintro ⟨h1, h2, h3⟩
    have e := h5 (.inr rfl) h1
    rw [enc_16] at e hm
    rw [List.length_append, flat_length] at hm
    simp at e hm
    simp at h2
    omega
  case inr.inr.inr.inr.inr.inr.inr.inr.inr.inl =>
    rw [cand_23 h0, if_neg]
    rintro ⟨h1, h2, h3⟩
    have e := h9 rfl h1
    rw [enc_23] at e hm
    rw [List.length_append, flat_length] at hm
    simp at e hm
    simp at h2
    omega
  case inl => rw [enc_read _ _ _ _ _ _ _ _ _ _ _ _ (by omega)] at hm; rw [cand_read h0 (by omega), if_neg (by simpa using hm)]
  case inr.inl => rw [enc_read _ _ _ _ _ _ _ _ _ _ _ _ (by omega)] at hm; rw [cand_read h0 (by omega), if_neg (by simpa using hm)]
  case inr.inr.inl => rw [enc_read _ _ _ _ _ _ _ _ _ _ _ _ (by omega)] at hm; rw [cand_read h0 (by omega), if_neg (by simpa using hm)]
  case inr.inr.inr.inl => rw [enc_read _ _ _ _ _ _ _ _ _ _ _ _ (by omega)] at hm; rw [cand_read h0 (by omega), if_neg (by simpa using hm)]
  case inr.inr.inr.inr.inl => rw [enc_5] at hm; have hm' : m ≠ 5 := by simpa using hm
                              rw [cand_5 h0, if_neg (fun h => hm' h.1), if_neg (fun h => hm' h.1)]
  case inr.inr.inr.inr.inr.inl => rw [enc_6] at hm; rw [cand_6 h0, if_neg (by simpa using hm)]
  case inr.inr.inr.inr.inr.inr.inr.inr.inl => rw [enc_22] at hm; rw [cand_22 h0, if_neg (by simpa using hm)]
  case inr.inr.inr.inr.inr.inr.inr.inr.inr.inr.inl => rw [enc_43] at hm; rw [cand_43 h0, if_neg (by simpa using hm)]
theorem parse_cut (fn : Int) (hr : rightP fn at_ n v an orr bs.length ws.length ra rn co ob) (m : Nat) (h1 : 1 ≤ m) (h2 : m < (enc fn at_ n v an orr bs ws ra rn co ob).length) :
    parseOf ((enc fn at_ n v an orr bs ws ra rn co ob).take m) m = (⟨fn, 0, 0, 0, 0, 0, [], [], 0, 0, 0, 0⟩, 3) := by
  have hl := enc_length at_ n v an orr bs ws ra rn co ob fn hr
  have g : ∀ i, i < m → ((enc fn at_ n v an orr bs ws ra rn co ob).take m).getD i 0 = (enc fn at_ n v an orr bs ws ra rn co ob).getD i 0 := by
    intro i hi
    simp [List.getD, List.getElem?_take, hi]
  refine parse_wrong _ m fn ((g 0 (by omega)).trans (enc_first at_ n v an orr bs ws ra rn co ob fn)) hr.1 h1 (by omega) ?_ (cand_off at_ n v an orr bs ws ra rn co ob fn hr _ m ((g 0 (by omega)).trans (enc_first at_ n v an orr bs ws ra rn co ob fn)) (fun _ h => g 5 h) (fun _ h => g 9 h) (by omega))
  rintro rfl
  by_cases h : m = 1
  · exact .inl h
  · exact .inr ((g 1 (by omega)).trans rfl)
theorem parse_more (fn : Int) (hr : rightP fn at_ n v an orr bs.length ws.length ra rn co ob) (x : Int) (m : Nat) (hm : m = (enc fn at_ n v an orr bs ws ra rn co ob).length + 1) :
    parseOf (enc fn at_ n v an orr bs ws ra rn co ob ++ [x]) m = (⟨fn, 0, 0, 0, 0, 0, [], [], 0, 0, 0, 0⟩, 3) := by
  have hl := enc_length at_ n v an orr bs ws ra rn co ob fn hr
  have g : ∀ i, i < (enc fn at_ n v an orr bs ws ra rn co ob).length → (enc fn at_ n v an orr bs ws ra rn co ob ++ [x]).getD i 0 = (enc fn at_ n v an orr bs ws ra rn co ob).getD i 0 := by
    intro i hi
    simp [List.getD, List.getElem?_append, hi]
  refine parse_wrong _ m fn ((g 0 (by omega)).trans (enc_first at_ n v an orr bs ws ra rn co ob fn)) hr.1 (by omega) (by omega) ?_ (cand_off at_ n v an orr bs ws ra rn co ob fn hr _ m ((g 0 (by omega)).trans (enc_first at_ n v an orr bs ws ra rn co ob fn)) (fun h _ => g 5 (by have := hl.2.2.1 h; omega)) (fun h _ => g 9 (by have := hl.2.2.2 h; omega)) (by omega))
  rintro rfl
  exact .inr ((g 1 (by omega)).trans rfl)
end

/-- What told leaves of a right head. -/
def ToldGot (z2 z3 z5 : Int) (mo : Bool) (N : Nat) (zs : List Int) (w : World) (e : Ending) (w' : World) : Prop :=
  ∃ OA ol oc ok, e = .returned (.tuple #[.agg #[.int .i64 43, .int .i64 0, .slice none 0 0, .slice none 0 0, .int .i64 0, .int .i64 0, .int .u16 0, .int .u16 0, .int .u16 0, .int .i64 z2, .int .i64 z3, .bool mo, .int .i64 z5, .slice OA ol oc], .bool ok]) ∧ Below w.heap.size w w' ∧ (∀ os, parseO N (zs.drop 7) = some os → ok = true ∧ ol = os.length ∧ w'.ownsRow (w.heap.size + 2) 57 2 (.slice OA ol oc) ol (obs os)) ∧ (parseO N (zs.drop 7) = none → ok = false)

theorem own2_lo {w : World} {b : Nat} {e : TypeId} {v : Value} {n : Nat} {xs : List Value} (h : w.ownsRow b e 2 v n xs) (p : Addr) (hp : p.block < b) (u : Value) : (w.setCell p u).ownsRow b e 2 v n xs := by
  refine ⟨h.1, ?_⟩
  rcases h.2 with h0 | ⟨g, cap, cur, hv, hg, hh, rest⟩
  · exact .inl h0
  · exact .inr ⟨g, cap, cur, hv, hg, (Below.heap_setCell w p u g (by omega)).trans hh, rest⟩

set_option maxRecDepth 100000 in
set_option maxHeartbeats 4000000 in
theorem told_few (b off n c : Nat) (zs : List Int) (w : World) (hr : Row .u8 w w.heap.size (some ⟨b, off, none⟩) n zs) (hx : Bytes8 zs) (hn : n ≤ 1000) (h1n : 1 ≤ n) (h0 : zs.getD 0 0 = 43) (hc : n ≤ c) (hfew : n < 7) :
    Calls Try.prog 64 #[.slice (some ⟨b, off, none⟩) n c] w fun e w' => e = .returned (.tuple #[.agg #[.int .i64 43, .int .i64 0, .slice none 0 0, .slice none 0 0, .int .i64 0, .int .i64 0, .int .u16 0, .int .u16 0, .int .u16 0, .int .i64 0, .int .i64 0, .bool false, .int .i64 0, .slice none 0 0], .bool false]) ∧ Below w.heap.size w w' := by
  obtain ⟨b', off', e1, hb, hcell⟩ := hr.2 (by omega)
  injection e1 with e1
  injection e1 with e1 e2
  subst e1 e2
  obtain ⟨hkw1, hkw, hg4, hg2⟩ := box2 w 28 [.int .i64 0, .int .i64 0, .slice none 0 0, .slice none 0 0, .int .i64 0, .int .i64 0, .int .u16 0, .int .u16 0, .int .u16 0, .int .i64 0, .int .i64 0, .bool false, .int .i64 0, .slice none 0 0] [.int .i64 43, .int .i64 0, .slice none 0 0, .slice none 0 0, .int .i64 0, .int .i64 0, .int .u16 0, .int .u16 0, .int .u16 0, .int .i64 0, .int .i64 0, .bool false, .int .i64 0, .slice none 0 0]
  have HCE := Lib.hid (fun X (hX : Below w.heap.size w X) j (hj : j < n) => (hX.cell (p := ⟨b, off + j, none⟩) hb).trans (hcell j hj))
  have HRG := Lib.hid (fun X (hX : Below w.heap.size w X) => (hr.below hX).more hX.size)
  have HX := Lib.hid hx
  have HKW := Lib.hid hkw
  have HG4 := Lib.hid hg4
  have HG2 := Lib.hid hg2
  clear hg4 hg2
  have hn0 : (0 : Int) < (n : Int) := by omega
  have hl7 : (n : Int) < 7 := by omega
  have H0 := Lib.hid h0
  clear hr hcell hkw hkw1 h0
  go_enter Try.func64, Try.ntmps64
  go_upto_region 2 with fail
  obtain ⟨w3, hw3, G4, G2, GB⟩ := named0 HG4 HG2 HKW
  have hz3 : w.heap.size + 1 < w3.heap.size := G4.out.lt
  obtain ⟨hs0, hs1, hs2, hs3, hs4, hs5, hs6, hs7, hs8, hs9, hs10, hs11, hs12, hs13⟩ := cells14 G4.out
  obtain ⟨hp0, hp1, hp2, hp3, hp4, hp5, hp6, hp7, hp8, hp9, hp10, hp11, hp12, hp13⟩ := cells14 G2.out
  obtain ⟨hf0, hf1, hf2, hf3, hf4, hf5, hf6, hf7, hf8, hf9, hf10, hf11, hf12, hf13⟩ := frozen14 G4.out
  obtain ⟨hg0, hg1, hg2, hg3, hg4, hg5, hg6, hg7, hg8, hg9, hg10, hg11, hg12, hg13⟩ := frozen14 G2.out
  rw [hw3]
  clear hw3 HG4 HG2 HKW
  go_wp2_with fail
  obtain ⟨X, hX⟩ : ∃ X, w3 = X := ⟨_, rfl⟩
  have hx0 := G2.out
  have hxb := GB.out
  rw [hX] at hx0 hxb
  rw [hX]
  exact end14 Try.results64 hx0 rfl hxb (Nat.le_refl _) rfl rfl fun w9 hbb hk => ⟨rfl, hbb⟩

set_option maxRecDepth 100000 in
set_option maxHeartbeats 4000000 in
theorem told_no1 (b off n c : Nat) (zs : List Int) (z1 : Int) (w : World) (hr : Row .u8 w w.heap.size (some ⟨b, off, none⟩) n zs) (hx : Bytes8 zs) (hn : n ≤ 1000) (h1n : 1 ≤ n) (h0 : zs.getD 0 0 = 43) (hc : n ≤ c) (h7 : 7 ≤ n) (hy1 : zs.getD 1 0 = z1) (hno : (z1 != 14) = true) :
    Calls Try.prog 64 #[.slice (some ⟨b, off, none⟩) n c] w fun e w' => e = .returned (.tuple #[.agg #[.int .i64 43, .int .i64 0, .slice none 0 0, .slice none 0 0, .int .i64 0, .int .i64 0, .int .u16 0, .int .u16 0, .int .u16 0, .int .i64 0, .int .i64 0, .bool false, .int .i64 0, .slice none 0 0], .bool false]) ∧ Below w.heap.size w w' := by
  obtain ⟨b', off', e1, hb, hcell⟩ := hr.2 (by omega)
  injection e1 with e1
  injection e1 with e1 e2
  subst e1 e2
  obtain ⟨hkw1, hkw, hg4, hg2⟩ := box2 w 28 [.int .i64 0, .int .i64 0, .slice none 0 0, .slice none 0 0, .int .i64 0, .int .i64 0, .int .u16 0, .int .u16 0, .int .u16 0, .int .i64 0, .int .i64 0, .bool false, .int .i64 0, .slice none 0 0] [.int .i64 43, .int .i64 0, .slice none 0 0, .slice none 0 0, .int .i64 0, .int .i64 0, .int .u16 0, .int .u16 0, .int .u16 0, .int .i64 0, .int .i64 0, .bool false, .int .i64 0, .slice none 0 0]
  have HCE := Lib.hid (fun X (hX : Below w.heap.size w X) j (hj : j < n) => (hX.cell (p := ⟨b, off + j, none⟩) hb).trans (hcell j hj))
  have HRG := Lib.hid (fun X (hX : Below w.heap.size w X) => (hr.below hX).more hX.size)
  have HX := Lib.hid hx
  have HKW := Lib.hid hkw
  have HG4 := Lib.hid hg4
  have HG2 := Lib.hid hg2
  clear hg4 hg2
  have hn0 : (0 : Int) < (n : Int) := by omega
  have hl7 : ¬ (n : Int) < 7 := by omega
  have i1 : (1 : Int) < (n : Int) := by omega
  have j1 : 1 < n := by omega
  have i2 : (2 : Int) < (n : Int) := by omega
  have j2 : 2 < n := by omega
  have i3 : (3 : Int) < (n : Int) := by omega
  have j3 : 3 < n := by omega
  have i4 : (4 : Int) < (n : Int) := by omega
  have j4 : 4 < n := by omega
  have i5 : (5 : Int) < (n : Int) := by omega
  have j5 : 5 < n := by omega
  have i6 : (6 : Int) < (n : Int) := by omega
  have j6 : 6 < n := by omega
  have H0 := Lib.hid h0
  clear hr hcell hkw hkw1 h0
  go_enter Try.func64, Try.ntmps64
  go_upto_region 2 with fail
  obtain ⟨w3, hw3, G4, G2, GB⟩ := named0 HG4 HG2 HKW
  have hz3 : w.heap.size + 1 < w3.heap.size := G4.out.lt
  obtain ⟨hs0, hs1, hs2, hs3, hs4, hs5, hs6, hs7, hs8, hs9, hs10, hs11, hs12, hs13⟩ := cells14 G4.out
  obtain ⟨hp0, hp1, hp2, hp3, hp4, hp5, hp6, hp7, hp8, hp9, hp10, hp11, hp12, hp13⟩ := cells14 G2.out
  obtain ⟨hf0, hf1, hf2, hf3, hf4, hf5, hf6, hf7, hf8, hf9, hf10, hf11, hf12, hf13⟩ := frozen14 G4.out
  obtain ⟨hg0, hg1, hg2, hg3, hg4, hg5, hg6, hg7, hg8, hg9, hg10, hg11, hg12, hg13⟩ := frozen14 G2.out
  rw [hw3]
  clear hw3 HG4 HG2 HKW
  have cb1 : w3.cell? ⟨b, off + 1, none⟩ = some (.int .u8 z1) := (HCE.out w3 GB.out 1 (by omega)).trans (by rw [hy1])
  go_wp2_with fail
  obtain ⟨X, hX⟩ : ∃ X, w3 = X := ⟨_, rfl⟩
  have hx0 := G2.out
  have hxb := GB.out
  rw [hX] at hx0 hxb
  rw [hX]
  exact end14 Try.results64 hx0 rfl hxb (Nat.le_refl _) rfl rfl fun w9 hbb hk => ⟨rfl, hbb⟩

set_option maxRecDepth 100000 in
set_option maxHeartbeats 4000000 in
theorem told_no4 (b off n c : Nat) (zs : List Int) (z1 z4 : Int) (w : World) (hr : Row .u8 w w.heap.size (some ⟨b, off, none⟩) n zs) (hx : Bytes8 zs) (hn : n ≤ 1000) (h1n : 1 ≤ n) (h0 : zs.getD 0 0 = 43) (hc : n ≤ c) (h7 : 7 ≤ n) (hy1 : zs.getD 1 0 = z1) (hy4 : zs.getD 4 0 = z4) (hyes : (z1 != 14) = false) (hno0 : (z4 != 0) = true) (hno5 : (z4 != 255) = true) :
    Calls Try.prog 64 #[.slice (some ⟨b, off, none⟩) n c] w fun e w' => e = .returned (.tuple #[.agg #[.int .i64 43, .int .i64 0, .slice none 0 0, .slice none 0 0, .int .i64 0, .int .i64 0, .int .u16 0, .int .u16 0, .int .u16 0, .int .i64 0, .int .i64 0, .bool false, .int .i64 0, .slice none 0 0], .bool false]) ∧ Below w.heap.size w w' := by
  obtain ⟨b', off', e1, hb, hcell⟩ := hr.2 (by omega)
  injection e1 with e1
  injection e1 with e1 e2
  subst e1 e2
  obtain ⟨hkw1, hkw, hg4, hg2⟩ := box2 w 28 [.int .i64 0, .int .i64 0, .slice none 0 0, .slice none 0 0, .int .i64 0, .int .i64 0, .int .u16 0, .int .u16 0, .int .u16 0, .int .i64 0, .int .i64 0, .bool false, .int .i64 0, .slice none 0 0] [.int .i64 43, .int .i64 0, .slice none 0 0, .slice none 0 0, .int .i64 0, .int .i64 0, .int .u16 0, .int .u16 0, .int .u16 0, .int .i64 0, .int .i64 0, .bool false, .int .i64 0, .slice none 0 0]
  have HCE := Lib.hid (fun X (hX : Below w.heap.size w X) j (hj : j < n) => (hX.cell (p := ⟨b, off + j, none⟩) hb).trans (hcell j hj))
  have HRG := Lib.hid (fun X (hX : Below w.heap.size w X) => (hr.below hX).more hX.size)
  have HX := Lib.hid hx
  have HKW := Lib.hid hkw
  have HG4 := Lib.hid hg4
  have HG2 := Lib.hid hg2
  clear hg4 hg2
  have hn0 : (0 : Int) < (n : Int) := by omega
  have hl7 : ¬ (n : Int) < 7 := by omega
  have i1 : (1 : Int) < (n : Int) := by omega
  have j1 : 1 < n := by omega
  have i2 : (2 : Int) < (n : Int) := by omega
  have j2 : 2 < n := by omega
  have i3 : (3 : Int) < (n : Int) := by omega
  have j3 : 3 < n := by omega
  have i4 : (4 : Int) < (n : Int) := by omega
  have j4 : 4 < n := by omega
  have i5 : (5 : Int) < (n : Int) := by omega
  have j5 : 5 < n := by omega
  have i6 : (6 : Int) < (n : Int) := by omega
  have j6 : 6 < n := by omega
  have H0 := Lib.hid h0
  clear hr hcell hkw hkw1 h0
  go_enter Try.func64, Try.ntmps64
  go_upto_region 2 with fail
  obtain ⟨w3, hw3, G4, G2, GB⟩ := named0 HG4 HG2 HKW
  have hz3 : w.heap.size + 1 < w3.heap.size := G4.out.lt
  obtain ⟨hs0, hs1, hs2, hs3, hs4, hs5, hs6, hs7, hs8, hs9, hs10, hs11, hs12, hs13⟩ := cells14 G4.out
  obtain ⟨hp0, hp1, hp2, hp3, hp4, hp5, hp6, hp7, hp8, hp9, hp10, hp11, hp12, hp13⟩ := cells14 G2.out
  obtain ⟨hf0, hf1, hf2, hf3, hf4, hf5, hf6, hf7, hf8, hf9, hf10, hf11, hf12, hf13⟩ := frozen14 G4.out
  obtain ⟨hg0, hg1, hg2, hg3, hg4, hg5, hg6, hg7, hg8, hg9, hg10, hg11, hg12, hg13⟩ := frozen14 G2.out
  rw [hw3]
  clear hw3 HG4 HG2 HKW
  have cb1 : w3.cell? ⟨b, off + 1, none⟩ = some (.int .u8 z1) := (HCE.out w3 GB.out 1 (by omega)).trans (by rw [hy1])
  have cb4 : w3.cell? ⟨b, off + 4, none⟩ = some (.int .u8 z4) := (HCE.out w3 GB.out 4 (by omega)).trans (by rw [hy4])
  go_wp2_with fail
  obtain ⟨X, hX⟩ : ∃ X, w3 = X := ⟨_, rfl⟩
  have hx0 := G2.out
  have hxb := GB.out
  rw [hX] at hx0 hxb
  rw [hX]
  exact end14 Try.results64 hx0 rfl hxb (Nat.le_refl _) rfl rfl fun w9 hbb hk => ⟨rfl, hbb⟩

theorem zeroCells_one (z : Value) (m : Nat) (hz : z.cells = #[z]) : Builtin.zeroCells z.cells m = (List.replicate m z).toArray := by
  unfold Builtin.zeroCells
  rw [hz]
  apply Array.toList_inj.1
  simp [Nat.mod_one]
  apply List.ext_getElem
  · simp
  · intro i h1 h2
    simp

theorem run_made_room {P : Program} (w : World) (t u ty e : TypeId) (i : TypeInfo) (z : Value) (ht : P.underlying t = some (.slice e)) (hu : P.underlying u = some (.int .i64)) (hi : P.info? e = some i) (hz : i.zero = some z) (hzc : z.cells = #[z]) (hsz : i.size = 1) (h1 : z.oneCell' = true)
    (g n cap : Nat) (cur : Array Value) (hg : w.heap[g]? = some (.cells cur e (0, 0))) (m : Nat) (hm0 : 0 < m) (hm : m ≤ 1000000) (hby : i.bytes ≤ 1000) (hroom : n + m ≤ cap) (hfit : n + m ≤ cur.size) :
    (Builtin.append_ #[t, u] ty #[.slice (some ⟨g, 0, none⟩) n cap, .int .i64 (m : Int)]).run P w = .ok (.slice (some ⟨g, 0, none⟩) (n + m) cap) (w.setRow g (cur.toList.take n ++ List.replicate m z ++ cur.toList.drop (n + m)).toArray) := by
  have hst := run_storeCells_at P g n e (List.replicate m z) 0 cur w hg (by simp; omega) (fun v hv => by rw [List.eq_of_mem_replicate hv]; exact h1)
  simp only [Nat.add_zero, List.length_replicate] at hst
  have hw : IntKind.i64.wrap (m : Int) = (m : Int) := IntWalk.i64_in _ (by omega)
  have hl : ¬ ((m : Int) < 0) := by omega
  have hbb : m * i.bytes ≤ 1000000 * 1000 := Nat.mul_le_mul hm hby
  have hb : ¬ (281474976710656 < (m : Int) * (i.bytes : Int)) := by
    have : (m : Int) * (i.bytes : Int) = ((m * i.bytes : Nat) : Int) := by simp
    rw [this]; omega
  have hm1 : ¬ m = 0 := by omega
  simp [Builtin.append_, run_underlying ht, run_underlying hu, sizeOf, typeInfo, zeroValue, hi, hz, asInt, asIntOf, hw, hl, hb, hroom, hsz, hm1, zeroCells_one z m hzc, Addr.add_lit, hst]

theorem run_made_grow {P : Program} (w : World) (t u ty e : TypeId) (i : TypeInfo) (z : Value) (ht : P.underlying t = some (.slice e)) (hu : P.underlying u = some (.int .i64)) (hi : P.info? e = some i) (hz : i.zero = some z) (hzc : z.cells = #[z]) (hsz : i.size = 1)
    (b : Addr) (n cap : Nat) (olds : List Value) (hlo : olds.length = n) (holds : ∀ j v, olds[j]? = some v → w.cell? (b.add j) = some v) (m : Nat) (hm0 : 0 < m) (hm : n + m ≤ 1000000) (hby : i.bytes ≤ 1000) (hg : cap < n + m) (hfit : Builtin.nextslicecap (n + m) cap * i.bytes ≤ 281474976710656) :
    (Builtin.append_ #[t, u] ty #[.slice (some b) n cap, .int .i64 (m : Int)]).run P w =
      .ok (.slice (some ⟨w.heap.size, 0, none⟩) (n + m) (grownCap w (n + m) cap e))
        (w.drew.alloc (.cells (olds.toArray ++ (List.replicate m z).toArray ++ Builtin.zeroCells z.cells (grownCap w (n + m) cap e - (n + m))) e)) := by
  have hn : ¬ (n + m ≤ cap) := by omega
  have h63' : ¬ (9223372036854775807 < ((n : Int) + (m : Int))) := by omega
  have h48' : ¬ (281474976710656 < Builtin.nextslicecap (n + m) cap * i.bytes) := by omega
  have hfo := run_firstCells_some (P := P) w.drew i.size n b n cap olds (by rw [hsz, hlo, Nat.mul_one]) (by simpa using holds)
  have hw : IntKind.i64.wrap (m : Int) = (m : Int) := IntWalk.i64_in _ (by omega)
  have hl : ¬ ((m : Int) < 0) := by omega
  have hbb : m * i.bytes ≤ 1000000 * 1000 := Nat.mul_le_mul (by omega) hby
  have hb : ¬ (281474976710656 < (m : Int) * (i.bytes : Int)) := by
    have : (m : Int) * (i.bytes : Int) = ((m * i.bytes : Nat) : Int) := by simp
    rw [this]; omega
  have hm1 : ¬ m = 0 := by omega
  rw [hsz] at hfo
  simp [Builtin.append_, run_underlying ht, run_underlying hu, sizeOf, typeInfo, zeroValue, hi, hz, asInt, asIntOf, hw, hl, hb, hn, h63', h48', hsz, hm1, zeroCells_one z m hzc, Question.forced, hfo, newRow, grownCap]
  try (congr 2; apply Array.ext'; simp [List.append_assoc])

/-- So many noughts behind a row of the call's own. -/
theorem run_append_made {P : Program} (w : World) (base : Nat) (t u ty e : TypeId) (z : Value) (bytes : Nat) (ht : P.underlying t = some (.slice e)) (hu : P.underlying u = some (.int .i64)) (hi : (P.info? e).map (fun i => (i.zero, i.size, i.bytes)) = some (some z, 1, bytes)) (hzc : z.cells = #[z]) (h1 : z.oneCell' = true)
    (v : Value) (n : Nat) (xs : List Value) (hown : w.ownsRow base e 1 v n xs) (hn0 : 0 < n) (m : Nat) (hm0 : 0 < m) (hm : n + m ≤ 1000000) (hby : bytes ≤ 1000) (hbase : base ≤ w.heap.size) :
    ∃ v' w', (Builtin.append_ #[t, u] ty #[v, .int .i64 (m : Int)]).run P w = .ok v' w' ∧ w'.ownsRow base e 1 v' (n + m) (xs ++ List.replicate m z) ∧ w.grownBy w' v.ownBlock ∧ (v'.ownBlock = v.ownBlock ∨ v'.ownBlock = some w.heap.size) := by
  obtain ⟨i, hi0, hz0, hz1, hz2⟩ := info_parts hi
  have hbb : (n + m) * bytes ≤ 1000000 * 1000 := Nat.mul_le_mul hm hby
  have hlen : (xs ++ List.replicate m z).length = (n + m) * 1 := by rw [List.length_append, hown.1, List.length_replicate]; omega
  rcases hown.2 with ⟨_, h0⟩ | ⟨g, cap, cur, rfl, hbg, hg, hnc, hcm, hcs, htake⟩
  · omega
  · by_cases hroom : n + m ≤ cap
    · have hfit : n + m ≤ cur.size := by rw [hcs]; omega
      have hr := run_made_room (P := P) w t u ty e i z ht hu hi0 hz0 hzc hz1 h1 g n cap cur hg m hm0 (by omega) (by omega) hroom hfit
      refine ⟨_, _, hr, ⟨hlen, .inr ⟨g, cap, _, rfl, hbg, setRow_heap w g cur _ e _ hg, hroom, hcm, ?_, ?_⟩⟩, ⟨rfl, rfl, rfl, by simp, fun k _ hk => setRow_other w g k _ (fun e => hk (by simp [Value.ownBlock, e]))⟩, Or.inl rfl⟩
      · simp only [List.size_toArray, List.length_append, List.length_take, List.length_drop, Array.length_toList, List.length_replicate]
        omega
      · rw [Nat.mul_one] at htake
        rw [htake, ← hlen]
        exact List.take_left
    · have holds : ∀ j u, xs[j]? = some u → w.cell? ((⟨g, 0, none⟩ : Addr).add j) = some u := hown.cells (g := g) rfl
      have hr := run_made_grow (P := P) w t u ty e i z ht hu hi0 hz0 hzc hz1 ⟨g, 0, none⟩ n cap xs (by have := hown.1; omega) holds m hm0 hm (by omega) (by omega) (growslice_fits (by omega) (by rw [hz2]; omega))
      have hge := grownCap_ge w (n + m) cap e
      have hcm2 : grownCap w (n + m) cap e ≤ maxLen := grownCap_le_maxLen w (n + m) cap e (by simp only [maxLen]; omega)
      refine ⟨_, _, hr, ⟨hlen, .inr ⟨w.heap.size, _, _, rfl, hbase, heap_alloc_new w.drew _, hge, hcm2, ?_, ?_⟩⟩, ⟨rfl, rfl, rfl, by simp, fun k hk _ => heap_alloc_old w.drew _ hk⟩, Or.inr rfl⟩
      · have hx := hown.1
        have h1s : (#[z] : Array Value).size = 1 := rfl
        simp only [Array.size_append, List.size_toArray, size_zeroCells, hzc, List.length_replicate, h1s]
        omega
      · simp only [Array.toList_append, List.append_assoc]
        rw [← List.append_assoc, ← hlen]
        exact List.take_left

/-- The same at the operation. -/
theorem wpList_append_made {P : Program} (w : World) {ops : Array Oper} {rest : List Oper} {o : Oper} {a : Act} {Q : Exit → Act → World → Prop} (hgd : o.guard = none) (s x : Operand) (t u : TypeId)
    (ho : o.op = .call { callee := .builtin .append, args := #[s, x], argTypes := #[t, u] })
    (base : Nat) (e : TypeId) (z : Value) (bytes : Nat) (ht : P.underlying t = some (.slice e)) (hu : P.underlying u = some (.int .i64)) (hi : (P.info? e).map (fun i => (i.zero, i.size, i.bytes)) = some (some z, 1, bytes)) (hzc : z.cells = #[z]) (h1 : z.oneCell' = true)
    (v : Value) (n : Nat) (xs : List Value) (hs : a.eval s = v) (hown : w.ownsRow base e 1 v n xs) (hn0 : 0 < n) (m : Nat) (hx : a.eval x = .int .i64 (m : Int)) (hm0 : 0 < m) (hm : n + m ≤ 1000000) (hby : bytes ≤ 1000) (hbase : base ≤ w.heap.size)
    (h : ∀ v' w', w'.ownsRow base e 1 v' (n + m) (xs ++ List.replicate m z) → w.grownBy w' v.ownBlock → (v'.ownBlock = v.ownBlock ∨ v'.ownBlock = some w.heap.size) → wpList P ops Q rest (a.put o.dst v') w') : wpList P ops Q (o :: rest) a w := by
  refine wpList_plain hgd fun _ hK => ?_
  obtain ⟨v', w', hrun, h2, h3, h4⟩ := run_append_made (P := P) w base t u o.type e z bytes ht hu hi hzc h1 v n xs hown hn0 m hm0 hm hby hbase
  unfold Oper.wp execOp
  simp only [ho, resolve, invoke, builtin, Sem.run_bind, Sem.run_pure, Result.andThen_ok, List.map_toArray, List.map_cons, List.map_nil, hs, hx, hrun]
  exact hK _ _ (h v' w' h2 h3 h4)

theorem drawn_to {w wr : World} {e : Nat} (h : Hid (wr = w.drewN e)) (n : Nat) : wr.drewN n = w.drewN (e + n) := by rw [h.out, World.drewN_drewN]

set_option maxRecDepth 100000 in
set_option maxHeartbeats 4000000 in
theorem sametell_yes (fn ex at_ n v an orr co le : Int) (mo : Bool) (nx : Int) (bs : List Bool) (ws : List Int) (os : List Ob) (bl wl ol : Nat) (BA WA OA BB WB OB : Option Addr) (b1 w1 o1 b2 w2 o2 : Nat) (w : World)
    (hb1 : BRow w w.heap.size BA bl bs) (hb2 : BRow w w.heap.size BB bl bs) (hw1 : Row .u16 w w.heap.size WA wl ws) (hw2 : Row .u16 w w.heap.size WB wl ws) (ho1 : OL w w.heap.size OA ol os) (ho2 : OL w w.heap.size OB ol os) (hbl : bl ≤ 100000) (hwl : wl ≤ 100000) (hol : ol ≤ 100000) :
    Calls Try.prog 10 #[.agg #[.int .i64 fn, .int .i64 ex, .slice BA bl b1, .slice WA wl w1, .int .i64 at_, .int .i64 n, .int .u16 v, .int .u16 an, .int .u16 orr, .int .i64 co, .int .i64 le, .bool mo, .int .i64 nx, .slice OA ol o1], .agg #[.int .i64 fn, .int .i64 ex, .slice BB bl b2, .slice WB wl w2, .int .i64 at_, .int .i64 n, .int .u16 v, .int .u16 an, .int .u16 orr, .int .i64 co, .int .i64 le, .bool mo, .int .i64 nx, .slice OB ol o2]] w fun e w' => e = .returned (.bool true) ∧ Below w.heap.size w w' := by
  obtain ⟨X0, hX0⟩ : ∃ X0, ((w.alloc (.cells #[.int .i64 fn, .int .i64 ex, .slice BA bl b1, .slice WA wl w1, .int .i64 at_, .int .i64 n, .int .u16 v, .int .u16 an, .int .u16 orr, .int .i64 co, .int .i64 le, .bool mo, .int .i64 nx, .slice OA ol o1] 28)).alloc (.cells #[.int .i64 fn, .int .i64 ex, .slice BB bl b2, .slice WB wl w2, .int .i64 at_, .int .i64 n, .int .u16 v, .int .u16 an, .int .u16 orr, .int .i64 co, .int .i64 le, .bool mo, .int .i64 nx, .slice OB ol o2] 28)) = X0 := ⟨_, rfl⟩
  have hk : Below w.heap.size w X0 := by rw [← hX0]; exact ((Below.refl _ _).alloc (Nat.le_refl _) _).alloc (by simp) _
  have hA : WholeV X0 w.heap.size 28 [.int .i64 fn, .int .i64 ex, .slice BA bl b1, .slice WA wl w1, .int .i64 at_, .int .i64 n, .int .u16 v, .int .u16 an, .int .u16 orr, .int .i64 co, .int .i64 le, .bool mo, .int .i64 nx, .slice OA ol o1] := by
    rw [← hX0]
    exact box14 _ _ _ _ _ _ _ _ _ _ _ _ _ _ _ w _ ((Below.refl _ _).alloc (by simp) _)
  have hB : WholeV X0 (w.heap.size + 1) 28 [.int .i64 fn, .int .i64 ex, .slice BB bl b2, .slice WB wl w2, .int .i64 at_, .int .i64 n, .int .u16 v, .int .u16 an, .int .u16 orr, .int .i64 co, .int .i64 le, .bool mo, .int .i64 nx, .slice OB ol o2] := by
    have h := heap_alloc_new (w.alloc (.cells #[.int .i64 fn, .int .i64 ex, .slice BA bl b1, .slice WA wl w1, .int .i64 at_, .int .i64 n, .int .u16 v, .int .u16 an, .int .u16 orr, .int .i64 co, .int .i64 le, .bool mo, .int .i64 nx, .slice OA ol o1] 28)) (.cells #[.int .i64 fn, .int .i64 ex, .slice BB bl b2, .slice WB wl w2, .int .i64 at_, .int .i64 n, .int .u16 v, .int .u16 an, .int .u16 orr, .int .i64 co, .int .i64 le, .bool mo, .int .i64 nx, .slice OB ol o2] 28)
    rw [show (w.alloc (.cells #[.int .i64 fn, .int .i64 ex, .slice BA bl b1, .slice WA wl w1, .int .i64 at_, .int .i64 n, .int .u16 v, .int .u16 an, .int .u16 orr, .int .i64 co, .int .i64 le, .bool mo, .int .i64 nx, .slice OA ol o1] 28)).heap.size = w.heap.size + 1 by simp, hX0] at h
    exact h
  have HK := Lib.hid hk
  have HA := Lib.hid hA
  have HB := Lib.hid hB
  have H1 := Lib.hid ((hb1.below hk).more hk.size)
  have H2 := Lib.hid ((hb2.below hk).more hk.size)
  have H3 := Lib.hid ((hw1.below hk).more hk.size)
  have H4 := Lib.hid ((hw2.below hk).more hk.size)
  have H5 := Lib.hid (ho1.below hk)
  have H6 := Lib.hid (ho2.below hk)
  have HX := Lib.hid hX0
  clear hb1 hb2 hw1 hw2 ho1 ho2 hk hA hB hX0
  go_enter Try.func10, Try.ntmps10
  go_wp2_with fail
  rw [HX.out]
  go_loopw [5] (fun i wr => ∃ k e : Nat, k ≤ ol ∧ i = .int .i64 (k : Int) ∧ Hid (wr = X0.drewN e)) (fun i _ => ol - (intOf i).toNat)
  case atStart => exact ⟨0, 0, by omega, rfl, Lib.hid rfl⟩
  case round =>
    obtain ⟨k, e, hk, rfl, HW⟩ := hrel
    have HAr : Hid (WholeV wr w.heap.size 28 [.int .i64 fn, .int .i64 ex, .slice BA bl b1, .slice WA wl w1, .int .i64 at_, .int .i64 n, .int .u16 v, .int .u16 an, .int .u16 orr, .int .i64 co, .int .i64 le, .bool mo, .int .i64 nx, .slice OA ol o1]) := by rw [HW.out]; exact HA
    have HBr : Hid (WholeV wr (w.heap.size + 1) 28 [.int .i64 fn, .int .i64 ex, .slice BB bl b2, .slice WB wl w2, .int .i64 at_, .int .i64 n, .int .u16 v, .int .u16 an, .int .u16 orr, .int .i64 co, .int .i64 le, .bool mo, .int .i64 nx, .slice OB ol o2]) := by rw [HW.out]; exact HB
    have H5r : Hid (OL wr wr.heap.size OA ol os) := by rw [HW.out]; exact H5
    have H6r : Hid (OL wr wr.heap.size OB ol os) := by rw [HW.out]; exact H6
    have ha13 := HAr.out.cell 13
    have hb13 := HBr.out.cell 13
    have hz1 : w.heap.size < wr.heap.size := HAr.out.lt
    by_cases hlt : k < ol
    · have hi : (k : Int) < (ol : Int) := by omega
      obtain ⟨bA, offA, hAA, hbA, hc1, hc2⟩ := H5r.out.at_ k hlt
      obtain ⟨bB, offB, hBB, hbB, hd1, hd2⟩ := H6r.out.at_ k hlt
      subst hAA hBB
      obtain ⟨x, hx⟩ : ∃ x, (os.getD k ob0).1 = x := ⟨_, rfl⟩
      obtain ⟨S, hS⟩ : ∃ S, (os.getD k ob0).2 = S := ⟨_, rfl⟩
      rw [hx] at hc1 hd1
      rw [hS] at hc2 hd2
      clear hx hS
      go_wp2
      go_quiet (fail)
      go_wp2
      go_roundw
      case rel => exact ⟨k + 1, _, by omega, by go_num, Lib.hid (drawn_to HW _)⟩
      case measure => simp [intOf]; omega
    · obtain rfl : ol = k := by omega
      have hd : decide (ol < ol) = false := by simp
      obtain ⟨hq0, hq1, hq2, hq3, hq4, hq5, hq6, hq7, hq8, hq9, hq10, hq11, hq12, hq13⟩ := cells14 HAr.out
      obtain ⟨hp0, hp1, hp2, hp3, hp4, hp5, hp6, hp7, hp8, hp9, hp10, hp11, hp12, hp13⟩ := cells14 HBr.out
      have HBW : Hid (Below w.heap.size w wr) := by rw [HW.out]; exact Lib.hid (below_drewN HK.out e)
      have C1 : Hid (BRow wr wr.heap.size BA bl bs) := by rw [HW.out]; exact H1
      have C2 : Hid (BRow wr wr.heap.size BB bl bs) := by rw [HW.out]; exact H2
      have C3 : Hid (∀ d, Row .u16 (wr.drewN d) (wr.drewN d).heap.size WA wl ws) := by rw [HW.out]; exact fun d => H3.out
      have C4 : Hid (∀ d, Row .u16 (wr.drewN d) (wr.drewN d).heap.size WB wl ws) := by rw [HW.out]; exact fun d => H4.out
      go_wp2_with (first
        | (go_at_call 33; (with_reducible refine (samebits5_yes BA BB bl b1 b2 bs _ C1.out C2.out hbl).mono ?_); rintro e w' ⟨rfl, d1, rfl⟩)
        | (go_at_call 34; (with_reducible refine (samewords_yes WA WB wl w1 w2 ws _ (C3.out _) (C4.out _) hwl).mono ?_); rintro e w' ⟨rfl, d2, rfl⟩))
      go_ret
      exact ⟨rfl, below_drewN HBW.out _⟩

end Go.Proofs.Ytielfekkonflfaa

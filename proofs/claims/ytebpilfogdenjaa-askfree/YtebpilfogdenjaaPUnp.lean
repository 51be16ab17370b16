/- Package ask: unpacked, refusal. -/
import Derived.Test.YtebpilfogdenjaaPRead
namespace Go.Proofs.Ytebpilfogdenjaa
open Go.ChangeShapes Go.WideShapes Go.ChangeAt Go.RowKit
set_option linter.unusedVariables false
set_option linter.unusedSimpArgs false

theorem and1 (i : Nat) (h : i < 9223372036854775808) : bits .and .i64 (i : Int) 1 = ((i % 2 : Nat) : Int) := by
  have ea : (BitVec.ofInt 64 (i : Int)).toNat = i := by rw [BitVec.ofInt_natCast, BitVec.toNat_ofNat]; exact Nat.mod_eq_of_lt (by omega)
  show IntKind.i64.wrap ((BitVec.ofInt 64 (i : Int) &&& BitVec.ofInt 64 1).toNat : Int) = _
  rw [BitVec.toNat_and, ea]
  have e : i &&& (BitVec.ofInt 64 1).toNat = i % 2 := Nat.and_two_pow_sub_one_eq_mod i 1
  rw [e]
  exact IntWalk.i64_in _ (by omega)
set_option maxRecDepth 100000 in
theorem punpacked_no (A : Option Addr) (m c : Nat) (n : Int) (w : World) (n0 : 0 ≤ n) (n1 : n ≤ 65535) (h : ¬ (m : Int) = n * 2) (hm : m ≤ 1000000) :
    Calls Try.prog 47 #[.slice A m c, .int .i64 n] w fun e w' => e = .returned (.tuple #[.slice none 0 0, .bool false]) ∧ w = w' := by
  have ea := and1 m (by omega)
  obtain ⟨r, hr⟩ : ∃ r, ((m % 2 : Nat) : Int) = r := ⟨_, rfl⟩
  rw [hr] at ea
  by_cases hz : r = 0
  · subst hz
    have hq : ¬ (m : Int) / 2 = n := by omega
    go_enter Try.func47, Try.ntmps47
    go_wp2
    go_ret2
    exact ⟨rfl, rfl⟩
  · go_enter Try.func47, Try.ntmps47
    go_wp2
    go_ret2
    exact ⟨rfl, rfl⟩

/-- The words that lie there, when k of n have been laid. -/
def wol (zs : List Int) (n k : Nat) : List Int := wordsAt zs 0 k ++ List.replicate (n - k) 0
theorem wol_length (zs : List Int) (n k : Nat) (h : k ≤ n) : (wol zs n k).length = n := by simp [wol, wordsAt_length]; omega
theorem wol_step (zs : List Int) (n k : Nat) (h : k < n) : (wol zs n k).set k (wordAt zs (2 * k)) = wol zs n (k + 1) := by
  unfold wol
  rw [wordsAt_succ, List.set_append_right _ _ (by rw [wordsAt_length]; omega), wordsAt_length, Nat.sub_self, List.append_assoc, Nat.zero_add]
  obtain ⟨m, hm⟩ : ∃ m, n - k = m + 1 := ⟨n - k - 1, by omega⟩
  rw [hm, show n - (k + 1) = m by omega]
  rfl

set_option maxRecDepth 100000 in
set_option maxHeartbeats 1000000 in
theorem punpacked_yes (A : Option Addr) (n m c : Nat) (y : Int) (zs : List Int) (w : World) (hm : m = 2 * n) (hy : y = (n : Int)) (hr : Row .u8 w w.heap.size A m zs) (hx : Bytes8 zs) (hn : n ≤ 1000) :
    Calls Try.prog 47 #[.slice A m c, .int .i64 y] w fun e w' => e = .returned (.tuple #[.slice (some ⟨w.heap.size, 0, none⟩) n n, .bool true]) ∧ Whole .u16 w' w.heap.size 26 (wordsAt zs 0 n) ∧ Below w.heap.size w w' := by
  subst hm hy
  have hmk := make_any (P := Try.prog) 28 26 (.int .u16 0) 2 Try.underlying28 infoW rfl n (by omega) (by omega)
  have HR := Lib.hid hr
  have HX := Lib.hid hx
  have HS : Hid (Whole .u16 (w.alloc (.cells (Array.replicate n (Value.int .u16 0)) 26)) w.heap.size 26 (wol zs n 0)) := by
    unfold Whole wol wordsAt
    simp only [List.range_zero, List.map_nil, List.nil_append, Nat.sub_zero, List.map_replicate, List.toArray_replicate]
    exact heap_alloc_new w _
  have HBS := Lib.hid ((Below.refl w.heap.size w).alloc (Nat.le_refl _) (.cells (Array.replicate n (Value.int .u16 0)) 26))
  have ea := and1 (2 * n) (by omega)
  rw [Nat.mul_mod_right] at ea
  have hne : (((2 * n : Nat) : Int)) / 2 = (n : Int) := by omega
  clear hr hx
  go_enter Try.func47, Try.ntmps47
  go_wp2
  go_loopw [7, 22] (fun u i wr => ∃ (k : Nat), k ≤ n ∧ i = .int .i64 (k : Int) ∧ Hid (Whole .u16 wr w.heap.size 26 (wol zs n k)) ∧ Hid (Below w.heap.size w wr)) (fun _ i _ => n - (intOf i).toNat)
  case atStart => exact ⟨0, by omega, rfl, HS, HBS⟩
  case round =>
    obtain ⟨k, hk, rfl, HW, HB⟩ := hrel
    by_cases hlt : k < n
    · have hi1 : (k : Int) < (n : Int) := by omega
      have HR2 := Lib.hid ((HR.out.below HB.out).more HB.out.size)
      have hc1 := HW.out.cell k (by rw [wol_length _ _ _ hk]; exact hlt)
      have hf1 := HW.out.frozen k
      obtain ⟨z, hz⟩ : ∃ z, wordAt zs (2 * k) = z := ⟨_, rfl⟩
      obtain ⟨z0, z1⟩ := wordAt_bounds HX.out (2 * k)
      rw [hz] at z0 z1
      have hG : gotW zs (2 * n) ((k : Int) * 2) = z := by
        unfold gotW
        rw [if_pos (by omega), show ((k : Int) * 2).toNat = 2 * k by omega, hz]
      have HG := Lib.hid hG
      have HZ := Lib.hid hz
      have wz : IntKind.u16.wrap z = z := IntWalk.u16_in _ (by omega)
      clear hz hG
      go_wp2_with (go_at_call 44; (with_reducible refine (pnumber_any A (2 * n) c zs _ z _ HG.out HR2.out HX.out (by omega)).mono ?_); rintro e w1 ⟨rfl, d1, rfl⟩)
      go_roundw
      case rel =>
        refine ⟨k + 1, by omega, by go_num, ?_, (below_drewN HB.out d1).setCell (Nat.le_refl _) _⟩
        have h := (HW.out.drewN d1).set_ k z
        rw [← HZ.out, wol_step _ _ _ hlt, HZ.out] at h
        exact h
      case measure => simp [intOf]; omega
    · obtain rfl : n = k := by omega
      go_wp2
      go_ret2
      refine ⟨rfl, ?_, HB.out⟩
      have h := HW.out
      unfold wol at h
      rw [Nat.sub_self, List.replicate_zero, List.append_nil] at h
      exact h

section
variable (A : Option Addr) (n c : Nat) (zs : List Int) (w : World)
theorem prefusal_unknown (f : Int) (hr : Row .u8 w w.heap.size A n zs) (hx : Bytes8 zs) (hn : n ≤ 1000) (h1 : 1 ≤ n) (h0 : zs.getD 0 0 = f) (hk : kKnown f = false) :
    Calls Try.prog 22 #[.slice A n c] w fun e w' => e = .returned (.int .i64 1) ∧ w = w' := by
  obtain ⟨b, off, rfl, hb, hcell⟩ := hr.2 (by omega)
  have hc0 : w.cell? ⟨b, off, none⟩ = some (.int .u8 f) := by
    have := hcell 0 (by omega)
    rwa [Nat.add_zero, h0] at this
  have hbq := hx.at_ 0
  change 0 ≤ zs.getD 0 0 ∧ zs.getD 0 0 ≤ 255 at hbq
  rw [h0] at hbq
  have q0 := hbq.1
  have q1 := hbq.2
  have hn0 : (0 : Int) < (n : Int) := by omega
  have HK := Lib.hid hk
  clear hr hx hcell h0 hbq hk
  go_enter Try.func22, Try.ntmps22
  go_wp2_with (go_at_call 36; refine (pknown_lit f false _ HK.out).mono ?_; rintro e w' ⟨rfl, rfl⟩)
  go_ret
  exact ⟨rfl, rfl⟩
theorem prefusal_other (f : Int) (hr : Row .u8 w w.heap.size A n zs) (hx : Bytes8 zs) (hn : n ≤ 1000) (h1 : 1 ≤ n) (h0 : zs.getD 0 0 = f) (hk : kKnown f = true) (hf : ¬ f = 43) :
    Calls Try.prog 22 #[.slice A n c] w fun e w' => e = .returned (.int .i64 0) ∧ w = w' := by
  obtain ⟨b, off, rfl, hb, hcell⟩ := hr.2 (by omega)
  have hc0 : w.cell? ⟨b, off, none⟩ = some (.int .u8 f) := by
    have := hcell 0 (by omega)
    rwa [Nat.add_zero, h0] at this
  have hbq := hx.at_ 0
  change 0 ≤ zs.getD 0 0 ∧ zs.getD 0 0 ≤ 255 at hbq
  rw [h0] at hbq
  have q0 := hbq.1
  have q1 := hbq.2
  have hn0 : (0 : Int) < (n : Int) := by omega
  have HK := Lib.hid hk
  clear hr hx hcell h0 hbq hk
  go_enter Try.func22, Try.ntmps22
  go_wp2_with (go_at_call 36; refine (pknown_lit f true _ HK.out).mono ?_; rintro e w' ⟨rfl, rfl⟩)
  go_ret
  exact ⟨rfl, rfl⟩
theorem prefusal_alone (hr : Row .u8 w w.heap.size A n zs) (h1 : n = 1) (h0 : zs.getD 0 0 = 43) :
    Calls Try.prog 22 #[.slice A n c] w fun e w' => e = .returned (.int .i64 3) ∧ w = w' := by
  subst h1
  obtain ⟨b, off, rfl, hb, hcell⟩ := hr.2 (by omega)
  have hc0 : w.cell? ⟨b, off, none⟩ = some (.int .u8 43) := by
    have := hcell 0 (by omega)
    rwa [Nat.add_zero, h0] at this
  have HK : Hid (kKnown 43 = true) := rfl
  clear hr hcell h0
  go_enter Try.func22, Try.ntmps22
  go_wp2_with (go_at_call 36; refine (pknown_lit 43 true _ HK.out).mono ?_; rintro e w' ⟨rfl, rfl⟩)
  go_ret
  exact ⟨rfl, rfl⟩
theorem prefusal_43 (s : Int) (hr : Row .u8 w w.heap.size A n zs) (hn : n ≤ 1000) (h1 : 2 ≤ n) (h0 : zs.getD 0 0 = 43) (hs : zs.getD 1 0 = s) (e : Int) (he : e = if s = 14 then 0 else 1) :
    Calls Try.prog 22 #[.slice A n c] w fun r w' => r = .returned (.int .i64 e) ∧ w = w' := by
  obtain ⟨b, off, rfl, hb, hcell⟩ := hr.2 (by omega)
  have hc0 : w.cell? ⟨b, off, none⟩ = some (.int .u8 43) := by
    have := hcell 0 (by omega)
    rwa [Nat.add_zero, h0] at this
  have hc1 := hcell 1 (by omega)
  rw [hs] at hc1
  have HK : Hid (kKnown 43 = true) := rfl
  have hn0 : (0 : Int) < (n : Int) := by omega
  have hn1 : (1 : Int) < (n : Int) := by omega
  have hn2 : ¬ (n : Int) = 1 := by omega
  clear hr hcell h0 hs
  by_cases hq : s = 14
  · subst hq
    rw [if_pos rfl] at he
    subst he
    go_enter Try.func22, Try.ntmps22
    go_wp2_with (go_at_call 36; refine (pknown_lit 43 true _ HK.out).mono ?_; rintro e w' ⟨rfl, rfl⟩)
    go_ret
    exact ⟨rfl, rfl⟩
  · rw [if_neg hq] at he
    subst he
    go_enter Try.func22, Try.ntmps22
    go_wp2_with (go_at_call 36; refine (pknown_lit 43 true _ HK.out).mono ?_; rintro e w' ⟨rfl, rfl⟩)
    go_ret
    exact ⟨rfl, rfl⟩
end

end Go.Proofs.Ytebpilfogdenjaa

/- Package iden: Check, of the program and of the document; Level of the document. -/
import Derived.Test.YtiomhabdnajieaaIdenA
namespace Go.Proofs.Ytiomhabdnajieaa
open Go.ChangeShapes Go.WideShapes Go.ChangeAt Go.RowKit
set_option linter.unusedVariables false
set_option linter.unusedSimpArgs false

def okAt (os : List Ob) (k : Nat) : Prop := (0 ≤ (os.getD k ob0).1 ∧ (os.getD k ob0).1 ≤ 255) ∧ (0 < k → (os.getD (k - 1) ob0).1 < (os.getD k ob0).1)
instance (os : List Ob) (k : Nat) : Decidable (okAt os k) := by unfold okAt; infer_instance
def riseP (os : List Ob) : Prop := ∀ k, k < os.length → okAt os k
def shortP (os : List Ob) : Prop := ∀ k, k < os.length → (os.getD k ob0).2.size ≤ 244
def enoughP (os : List Ob) : Prop := ∀ k, k < 3 → k < os.length ∧ (os.getD k ob0).1 = (k : Int)
instance (os : List Ob) : Decidable (riseP os) := by unfold riseP; infer_instance
instance (os : List Ob) : Decidable (shortP os) := by unfold shortP; infer_instance
instance (os : List Ob) : Decidable (enoughP os) := by unfold enoughP; infer_instance
/-- What Check answers. -/
def checkOf (os : List Ob) : Int := if riseP os then if shortP os then if enoughP os then 0 else 5 else 4 else 1

theorem drawn_on {w wr : World} {e : Nat} (h : Hid (wr = w.drewN e)) (n : Nat) : wr.drewN n = w.drewN (e + n) := by rw [h.out, World.drewN_drewN]

section
variable (A : Option Addr) (n c : Nat) (os : List Ob) (w : World)

theorem irise_any (b : Bool) (hl : OL w w.heap.size A n os) (hn : n ≤ 100000) (hb : decide (riseP os) = b) :
    Calls Try.prog 82 #[.slice A n c] w (Quiet (.bool b) w) := by
  have HL := Lib.hid hl
  have HE := Lib.hid hl.len
  have HB := Lib.hid hb
  clear hl hb
  go_enter Try.func82, Try.ntmps82
  go_wp2
  go_loopw [6] (fun i wr => ∃ k e : Nat, k ≤ n ∧ i = .int .i64 (k : Int) ∧ Hid (wr = w.drewN e) ∧ Hid (∀ j, j < k → okAt os j)) (fun i _ => n - (intOf i).toNat)
  case atStart => exact ⟨0, 0, by omega, rfl, Lib.hid rfl, Lib.hid (fun j hj => by omega)⟩
  case round =>
    obtain ⟨k, e, hk, rfl, HW, HK⟩ := hrel
    have HLr : Hid (OL wr wr.heap.size A n os) := by rw [HW.out]; exact HL
    by_cases hlt : k < n
    · have hi : (k : Int) < (n : Int) := by omega
      obtain ⟨b1, off, rfl, hb, hc1, hc2⟩ := HLr.out.at_ k hlt
      have HOK : Hid (okAt os k ↔ (0 ≤ (os.getD k ob0).1 ∧ (os.getD k ob0).1 ≤ 255) ∧ (0 < k → (os.getD (k - 1) ob0).1 < (os.getD k ob0).1)) := Lib.hid Iff.rfl
      obtain ⟨x, hx⟩ : ∃ x, (os.getD k ob0).1 = x := ⟨_, rfl⟩
      rw [hx] at hc1 HOK
      clear hx hc2
      have hno : ¬ okAt os k → b = false := fun h => by
        rw [← HB.out]
        exact decide_eq_false fun hr => h (hr k (by rw [HE.out]; exact hlt))
      have HNO := Lib.hid hno
      clear hno
      by_cases hby : 0 ≤ x ∧ x ≤ 255
      · have CB := Lib.hid (fun W => isbyte_lit x true W (decide_eq_true hby))
        rcases Nat.eq_zero_or_pos k with h0 | h0
        · subst h0
          rw [Nat.zero_mul, Nat.add_zero] at hc1
          have HK0 := Lib.hid (HOK.out.2 ⟨hby, fun h => by omega⟩)
          go_wp2
          go_quiet ((go_at_call 59; exact quiet_still (CB.out _)))
          go_wp2
          go_roundw
          case rel => exact ⟨1, _, by omega, by go_num, Lib.hid (drawn_on HW _), Lib.hid (fun j hj => by have h : j = 0 := (by omega); rw [h]; exact HK0.out)⟩
          case measure => simp [intOf]; omega
        · obtain ⟨b2, off2, hAA, _, hd1, _⟩ := HLr.out.at_ (k - 1) (by omega)
          injection hAA with hAA
          injection hAA with e1 e2
          subst e1 e2
          obtain ⟨y, hy⟩ : ∃ y, (os.getD (k - 1) ob0).1 = y := ⟨_, rfl⟩
          rw [hy] at hd1 HOK
          clear hy
          have hk1 : (0 : Int) < (k : Int) := by omega
          have hk2 : IntKind.i64.wrap ((k : Int) - 1) = (k : Int) - 1 := IntWalk.i64_in _ (by omega)
          have hk3 : (0 : Int) ≤ (k : Int) - 1 := by omega
          have hk4 : ((k : Int) - 1).toNat = k - 1 := by omega
          have hk5 : (k : Int) - 1 < (n : Int) := by omega
          by_cases hxy : x ≤ y
          · have HF := Lib.hid (HNO.out fun h => by have := (HOK.out.1 h).2 h0; omega)
            go_wp2
            go_quiet ((go_at_call 59; exact quiet_still (CB.out _)))
            go_wp2
            go_ret
            exact ⟨ret_bool HF.out.symm, _, drawn_on HW _⟩
          · have HK0 := Lib.hid (HOK.out.2 ⟨hby, fun h => by omega⟩)
            go_wp2
            go_quiet ((go_at_call 59; exact quiet_still (CB.out _)))
            go_wp2
            go_roundw
            case rel =>
              refine ⟨k + 1, _, by omega, by go_num, Lib.hid (drawn_on HW _), Lib.hid (fun j hj => ?_)⟩
              rcases Nat.lt_or_ge j k with h | h
              · exact HK.out j h
              · have h : j = k := by omega
                rw [h]; exact HK0.out
            case measure => simp [intOf]; omega
      · have CB := Lib.hid (fun W => isbyte_lit x false W (decide_eq_false hby))
        have HF := Lib.hid (HNO.out fun h => hby (HOK.out.1 h).1)
        go_wp2
        go_quiet ((go_at_call 59; exact quiet_still (CB.out _)))
        go_wp2
        go_ret
        exact ⟨ret_bool HF.out.symm, _, drawn_on HW _⟩
    · obtain rfl : n = k := by omega
      go_wp2
      go_ret
      refine ⟨ret_bool ?_, _, HW.out⟩
      rw [← HB.out]
      exact (decide_eq_true (fun j hj => HK.out j (by rw [HE.out] at hj; exact hj))).symm

/-! Loops, by ichk.py. -/
set_option maxHeartbeats 1000000 in
theorem ishort_yes (H3' : ∀ k, k < n → (os.getD k ob0).2.size ≤ 244) (hl : OL w w.heap.size A n os) (hn : n ≤ 100000) :
    Calls Try.prog 83 #[.slice A n c] w (Quiet (.bool true) w) := by
  have HL := Lib.hid hl
  have HE := Lib.hid hl.len
  have H3 := Lib.hid H3'
  clear hl H3'
  go_enter Try.func83, Try.ntmps83
  go_wp2
  go_loop [6] (fun i => ∃ k : Nat, k ≤ n ∧ i = .int .i64 (k : Int)) (fun i => n - (intOf i).toNat)
  case atStart => exact ⟨0, by omega, rfl⟩
  case round =>
    obtain ⟨k, hk, rfl⟩ := hrel
    by_cases hlt : k < n
    · have hi : (k : Int) < (n : Int) := by omega
      obtain ⟨b1, off, hA1, hb, hc1, hc2⟩ := HL.out.at_ k (by omega)
      subst hA1
      have hsz := H3.out k hlt
      obtain ⟨S, hS⟩ : ∃ S, (os.getD k ob0).2 = S := ⟨_, rfl⟩
      rw [hS] at hc2 hsz
      clear hS hc1
      have hs2 : ¬ (244 : Int) < (S.size : Int) := by omega
      go_wp2
      go_round
      case rel => exact ⟨k + 1, by omega, by go_num⟩
      case measure => simp [intOf]; omega
    · obtain rfl : n = k := by omega
      go_wp2
      go_ret
      exact ⟨rfl, 0, rfl⟩

set_option maxHeartbeats 1000000 in
theorem ishort_no (m : Nat) (hm : m < n) (H3' : ∀ k, k < m → (os.getD k ob0).2.size ≤ 244) (H4' : ¬ (os.getD m ob0).2.size ≤ 244) (hl : OL w w.heap.size A n os) (hn : n ≤ 100000) :
    Calls Try.prog 83 #[.slice A n c] w (Quiet (.bool false) w) := by
  have HL := Lib.hid hl
  have HE := Lib.hid hl.len
  have H3 := Lib.hid H3'
  have H4 := Lib.hid H4'
  clear hl H3' H4'
  go_enter Try.func83, Try.ntmps83
  go_wp2
  go_loop [6] (fun i => ∃ k : Nat, k ≤ m ∧ i = .int .i64 (k : Int)) (fun i => n - (intOf i).toNat)
  case atStart => exact ⟨0, by omega, rfl⟩
  case round =>
    obtain ⟨k, hk, rfl⟩ := hrel
    by_cases hlt : k < m
    · have hi : (k : Int) < (n : Int) := by omega
      obtain ⟨b1, off, hA1, hb, hc1, hc2⟩ := HL.out.at_ k (by omega)
      subst hA1
      have hsz := H3.out k hlt
      obtain ⟨S, hS⟩ : ∃ S, (os.getD k ob0).2 = S := ⟨_, rfl⟩
      rw [hS] at hc2 hsz
      clear hS hc1
      have hs2 : ¬ (244 : Int) < (S.size : Int) := by omega
      go_wp2
      go_round
      case rel => exact ⟨k + 1, by omega, by go_num⟩
      case measure => simp [intOf]; omega
    · obtain rfl : m = k := by omega
      have hi : (m : Int) < (n : Int) := by omega
      obtain ⟨b1, off, hA1, hb, hc1, hc2⟩ := HL.out.at_ m (by omega)
      subst hA1
      obtain ⟨S, hS⟩ : ∃ S, (os.getD m ob0).2 = S := ⟨_, rfl⟩
      have hsz : ¬ S.size ≤ 244 := by rw [← hS]; exact H4.out
      rw [hS] at hc2
      clear hS hc1
      have hs2 : (244 : Int) < (S.size : Int) := by omega
      go_wp2
      go_ret
      exact ⟨rfl, 0, rfl⟩

set_option maxHeartbeats 1000000 in
theorem ienough_yes (H5' : ∀ k, k < 3 → k < os.length ∧ (os.getD k ob0).1 = (k : Int)) (hl : OL w w.heap.size A n os) (hn : n ≤ 100000) :
    Calls Try.prog 84 #[.slice A n c] w (Quiet (.bool true) w) := by
  have HL := Lib.hid hl
  have HE := Lib.hid hl.len
  have H5 := Lib.hid H5'
  clear hl H5'
  go_enter Try.func84, Try.ntmps84
  go_wp2
  go_loop [4] (fun i => ∃ k : Nat, k ≤ 3 ∧ i = .int .i64 (k : Int)) (fun i => 3 - (intOf i).toNat)
  case atStart => exact ⟨0, by omega, rfl⟩
  case round =>
    obtain ⟨k, hk, rfl⟩ := hrel
    by_cases hlt : k < 3
    · have hi : (k : Int) < 3 := by omega
      obtain ⟨hkn, hid⟩ := H5.out k hlt
      have hlen := HE.out
      rw [hlen] at hkn
      have hin : ¬ (n : Int) ≤ (k : Int) := by omega
      have hin2 : (k : Int) < (n : Int) := by omega
      obtain ⟨b1, off, hA1, hb, hc1, hc2⟩ := HL.out.at_ k hkn
      subst hA1
      rw [hid] at hc1
      clear hid hc2 hlen
      have hne : ((k : Int) != (k : Int)) = false := by simp
      go_wp2
      go_round
      case rel => exact ⟨k + 1, by omega, by go_num⟩
      case measure => simp [intOf]; omega
    · obtain rfl : k = 3 := by omega
      go_wp2
      go_ret
      exact ⟨rfl, 0, rfl⟩

set_option maxHeartbeats 1000000 in
theorem ienough_no (m : Nat) (hm : m < 3) (H5' : ∀ k, k < m → k < os.length ∧ (os.getD k ob0).1 = (k : Int)) (H6' : ¬ (m < os.length ∧ (os.getD m ob0).1 = (m : Int))) (hl : OL w w.heap.size A n os) (hn : n ≤ 100000) :
    Calls Try.prog 84 #[.slice A n c] w (Quiet (.bool false) w) := by
  have HL := Lib.hid hl
  have HE := Lib.hid hl.len
  have H5 := Lib.hid H5'
  have H6 := Lib.hid H6'
  clear hl H5' H6'
  go_enter Try.func84, Try.ntmps84
  go_wp2
  go_loop [4] (fun i => ∃ k : Nat, k ≤ m ∧ i = .int .i64 (k : Int)) (fun i => 3 - (intOf i).toNat)
  case atStart => exact ⟨0, by omega, rfl⟩
  case round =>
    obtain ⟨k, hk, rfl⟩ := hrel
    by_cases hlt : k < m
    · have hi : (k : Int) < 3 := by omega
      obtain ⟨hkn, hid⟩ := H5.out k hlt
      have hlen := HE.out
      rw [hlen] at hkn
      have hin : ¬ (n : Int) ≤ (k : Int) := by omega
      have hin2 : (k : Int) < (n : Int) := by omega
      obtain ⟨b1, off, hA1, hb, hc1, hc2⟩ := HL.out.at_ k hkn
      subst hA1
      rw [hid] at hc1
      clear hid hc2 hlen
      have hne : ((k : Int) != (k : Int)) = false := by simp
      go_wp2
      go_round
      case rel => exact ⟨k + 1, by omega, by go_num⟩
      case measure => simp [intOf]; omega
    · obtain rfl : m = k := by omega
      have hi : (m : Int) < 3 := by omega
      by_cases hmn : m < n
      · have hin : ¬ (n : Int) ≤ (m : Int) := by omega
        have hin2 : (m : Int) < (n : Int) := by omega
        obtain ⟨b1, off, hA1, hb, hc1, hc2⟩ := HL.out.at_ m hmn
        subst hA1
        obtain ⟨x, hx⟩ : ∃ x, (os.getD m ob0).1 = x := ⟨_, rfl⟩
        have hxm : ¬ x = (m : Int) := fun h => H6.out ⟨by rw [HE.out]; exact hmn, by rw [hx]; exact h⟩
        rw [hx] at hc1
        clear hx hc2
        have hne : (x != (m : Int)) = true := by simpa using hxm
        go_wp2
        go_ret
        exact ⟨rfl, 0, rfl⟩
      · have hin : (n : Int) ≤ (m : Int) := by omega
        have hin2 : decide (n ≤ m) = true := decide_eq_true (by omega)
        go_wp2
        go_ret
        exact ⟨rfl, 0, rfl⟩

set_option maxHeartbeats 1000000 in
theorem robjects_1 (m : Nat) (hm : m < n) (H1' : ∀ k, k < m → okAt os k) (H2' : ¬ okAt os m) (hl : OL w w.heap.size A n os) (hn : n ≤ 100000) :
    Calls Try.prog 37 #[.slice A n c] w (Quiet (.int .i64 1) w) := by
  have HL := Lib.hid hl
  have HE := Lib.hid hl.len
  have H1 := Lib.hid H1'
  have H2 := Lib.hid H2'
  clear hl H1' H2'
  go_enter Try.func37, Try.ntmps37
  go_wp2
  go_loopw [3] (fun i wr => ∃ k e : Nat, k ≤ m ∧ i = .int .i64 (k : Int) ∧ Hid (wr = w.drewN e)) (fun i _ => n - (intOf i).toNat)
  case atStart => exact ⟨0, 0, by omega, rfl, Lib.hid rfl⟩
  case round =>
    obtain ⟨k, e, hk, rfl, HW⟩ := hrel
    have HLr : Hid (OL wr wr.heap.size A n os) := by rw [HW.out]; exact HL
    by_cases hlt : k < m
    · have hi : (k : Int) < (n : Int) := by omega
      obtain ⟨b1, off, hA1, hb, hc1, hc2⟩ := HLr.out.at_ k (by omega)
      subst hA1
      obtain ⟨hby, hgt⟩ := H1.out k hlt
      obtain ⟨x, hx⟩ : ∃ x, (os.getD k ob0).1 = x := ⟨_, rfl⟩
      rw [hx] at hc1 hby hgt
      clear hx hc2
      have CB := Lib.hid (fun W => byteful_yes x W hby.1 hby.2)
      rcases Nat.eq_zero_or_pos k with h0 | h0
      · subst h0
        rw [Nat.zero_mul, Nat.add_zero] at hc1
        clear hgt
        go_wp2
        go_quiet ((go_at_call 62; exact quiet_still (CB.out _)))
        go_wp2
        go_roundw
        case rel => exact ⟨1, _, by omega, by go_num, Lib.hid (drawn_on HW _)⟩
        case measure => simp [intOf]; omega
      · obtain ⟨b2, off2, hAA, _, hd1, _⟩ := HLr.out.at_ (k - 1) (by omega)
        injection hAA with hAA
        injection hAA with e1 e2
        subst e1 e2
        obtain ⟨y, hy⟩ : ∃ y, (os.getD (k - 1) ob0).1 = y := ⟨_, rfl⟩
        have hxy := hgt h0
        rw [hy] at hd1 hxy
        clear hy hgt
        have hk1 : (0 : Int) < (k : Int) := by omega
        have hk2 : IntKind.i64.wrap ((k : Int) - 1) = (k : Int) - 1 := IntWalk.i64_in _ (by omega)
        have hk3 : (0 : Int) ≤ (k : Int) - 1 := by omega
        have hk4 : ((k : Int) - 1).toNat = k - 1 := by omega
        have hk5 : (k : Int) - 1 < (n : Int) := by omega
        have hxy2 : ¬ x ≤ y := by omega
        go_wp2
        go_quiet ((go_at_call 62; exact quiet_still (CB.out _)))
        go_wp2
        go_roundw
        case rel => exact ⟨k + 1, _, by omega, by go_num, Lib.hid (drawn_on HW _)⟩
        case measure => simp [intOf]; omega
    · obtain rfl : m = k := by omega
      have hi : (m : Int) < (n : Int) := by omega
      obtain ⟨b1, off, hA1, hb, hc1, hc2⟩ := HLr.out.at_ m (by omega)
      subst hA1
      obtain ⟨x, hx⟩ : ∃ x, (os.getD m ob0).1 = x := ⟨_, rfl⟩
      have HOK : Hid (¬ ((0 ≤ x ∧ x ≤ 255) ∧ (0 < m → (os.getD (m - 1) ob0).1 < x))) := by rw [← hx]; exact H2
      rw [hx] at hc1
      clear hx hc2
      by_cases hby : 0 ≤ x ∧ x ≤ 255
      · have CB := Lib.hid (fun W => byteful_yes x W hby.1 hby.2)
        have h0 : 0 < m := by
          rcases Nat.eq_zero_or_pos m with h | h
          · exact absurd ⟨hby, fun h2 => by omega⟩ HOK.out
          · exact h
        obtain ⟨b2, off2, hAA, _, hd1, _⟩ := HLr.out.at_ (m - 1) (by omega)
        injection hAA with hAA
        injection hAA with e1 e2
        subst e1 e2
        obtain ⟨y, hy⟩ : ∃ y, (os.getD (m - 1) ob0).1 = y := ⟨_, rfl⟩
        have hxy : x ≤ y := Int.not_lt.1 fun h => HOK.out ⟨hby, fun _ => by rw [hy]; exact h⟩
        rw [hy] at hd1
        clear hy
        have hk1 : (0 : Int) < (m : Int) := by omega
        have hk2 : IntKind.i64.wrap ((m : Int) - 1) = (m : Int) - 1 := IntWalk.i64_in _ (by omega)
        have hk3 : (0 : Int) ≤ (m : Int) - 1 := by omega
        have hk4 : ((m : Int) - 1).toNat = m - 1 := by omega
        have hk5 : (m : Int) - 1 < (n : Int) := by omega
        go_wp2
        go_quiet ((go_at_call 62; exact quiet_still (CB.out _)))
        go_wp2
        go_ret
        exact ⟨rfl, _, drawn_on HW _⟩
      · have CB := Lib.hid (fun W => byteful_no x W (by omega))
        clear HOK
        go_wp2
        go_quiet ((go_at_call 62; exact quiet_still (CB.out _)))
        go_wp2
        go_ret
        exact ⟨rfl, _, drawn_on HW _⟩

set_option maxHeartbeats 1000000 in
theorem robjects_4 (H1' : ∀ k, k < n → okAt os k) (m : Nat) (hm : m < n) (H3' : ∀ k, k < m → (os.getD k ob0).2.size ≤ 244) (H4' : ¬ (os.getD m ob0).2.size ≤ 244) (hl : OL w w.heap.size A n os) (hn : n ≤ 100000) :
    Calls Try.prog 37 #[.slice A n c] w (Quiet (.int .i64 4) w) := by
  have HL := Lib.hid hl
  have HE := Lib.hid hl.len
  have H1 := Lib.hid H1'
  have H3 := Lib.hid H3'
  have H4 := Lib.hid H4'
  clear hl H1' H3' H4'
  go_enter Try.func37, Try.ntmps37
  go_wp2
  go_loopw [3] (fun i wr => ∃ k e : Nat, k ≤ n ∧ i = .int .i64 (k : Int) ∧ Hid (wr = w.drewN e)) (fun i _ => n - (intOf i).toNat)
  case atStart => exact ⟨0, 0, by omega, rfl, Lib.hid rfl⟩
  case round =>
    obtain ⟨k, e, hk, rfl, HW⟩ := hrel
    have HLr : Hid (OL wr wr.heap.size A n os) := by rw [HW.out]; exact HL
    by_cases hlt : k < n
    · have hi : (k : Int) < (n : Int) := by omega
      obtain ⟨b1, off, hA1, hb, hc1, hc2⟩ := HLr.out.at_ k (by omega)
      subst hA1
      obtain ⟨hby, hgt⟩ := H1.out k hlt
      obtain ⟨x, hx⟩ : ∃ x, (os.getD k ob0).1 = x := ⟨_, rfl⟩
      rw [hx] at hc1 hby hgt
      clear hx hc2
      have CB := Lib.hid (fun W => byteful_yes x W hby.1 hby.2)
      rcases Nat.eq_zero_or_pos k with h0 | h0
      · subst h0
        rw [Nat.zero_mul, Nat.add_zero] at hc1
        clear hgt
        go_wp2
        go_quiet ((go_at_call 62; exact quiet_still (CB.out _)))
        go_wp2
        go_roundw
        case rel => exact ⟨1, _, by omega, by go_num, Lib.hid (drawn_on HW _)⟩
        case measure => simp [intOf]; omega
      · obtain ⟨b2, off2, hAA, _, hd1, _⟩ := HLr.out.at_ (k - 1) (by omega)
        injection hAA with hAA
        injection hAA with e1 e2
        subst e1 e2
        obtain ⟨y, hy⟩ : ∃ y, (os.getD (k - 1) ob0).1 = y := ⟨_, rfl⟩
        have hxy := hgt h0
        rw [hy] at hd1 hxy
        clear hy hgt
        have hk1 : (0 : Int) < (k : Int) := by omega
        have hk2 : IntKind.i64.wrap ((k : Int) - 1) = (k : Int) - 1 := IntWalk.i64_in _ (by omega)
        have hk3 : (0 : Int) ≤ (k : Int) - 1 := by omega
        have hk4 : ((k : Int) - 1).toNat = k - 1 := by omega
        have hk5 : (k : Int) - 1 < (n : Int) := by omega
        have hxy2 : ¬ x ≤ y := by omega
        go_wp2
        go_quiet ((go_at_call 62; exact quiet_still (CB.out _)))
        go_wp2
        go_roundw
        case rel => exact ⟨k + 1, _, by omega, by go_num, Lib.hid (drawn_on HW _)⟩
        case measure => simp [intOf]; omega
    · obtain rfl : n = k := by omega
      go_wp2
      go_loop [4] (fun i => ∃ k : Nat, k ≤ m ∧ i = .int .i64 (k : Int)) (fun i => n - (intOf i).toNat)
      case atStart => exact ⟨0, by omega, rfl⟩
      case round =>
        obtain ⟨k, hk, rfl⟩ := hrel
        by_cases hlt : k < m
        · have hi : (k : Int) < (n : Int) := by omega
          obtain ⟨b1, off, hA1, hb, hc1, hc2⟩ := HLr.out.at_ k (by omega)
          subst hA1
          have hsz := H3.out k hlt
          obtain ⟨S, hS⟩ : ∃ S, (os.getD k ob0).2 = S := ⟨_, rfl⟩
          rw [hS] at hc2 hsz
          clear hS hc1
          have hs2 : ¬ (244 : Int) < (S.size : Int) := by omega
          go_wp2
          go_round
          case rel => exact ⟨k + 1, by omega, by go_num⟩
          case measure => simp [intOf]; omega
        · obtain rfl : m = k := by omega
          have hi : (m : Int) < (n : Int) := by omega
          obtain ⟨b1, off, hA1, hb, hc1, hc2⟩ := HLr.out.at_ m (by omega)
          subst hA1
          obtain ⟨S, hS⟩ : ∃ S, (os.getD m ob0).2 = S := ⟨_, rfl⟩
          have hsz : ¬ S.size ≤ 244 := by rw [← hS]; exact H4.out
          rw [hS] at hc2
          clear hS hc1
          have hs2 : (244 : Int) < (S.size : Int) := by omega
          go_wp2
          go_ret
          exact ⟨rfl, _, HW.out⟩

set_option maxHeartbeats 1000000 in
theorem robjects_5 (H1' : ∀ k, k < n → okAt os k) (H3' : ∀ k, k < n → (os.getD k ob0).2.size ≤ 244) (m : Nat) (hm : m < 3) (H5' : ∀ k, k < m → k < os.length ∧ (os.getD k ob0).1 = (k : Int)) (H6' : ¬ (m < os.length ∧ (os.getD m ob0).1 = (m : Int))) (hl : OL w w.heap.size A n os) (hn : n ≤ 100000) :
    Calls Try.prog 37 #[.slice A n c] w (Quiet (.int .i64 5) w) := by
  have HL := Lib.hid hl
  have HE := Lib.hid hl.len
  have H1 := Lib.hid H1'
  have H3 := Lib.hid H3'
  have H5 := Lib.hid H5'
  have H6 := Lib.hid H6'
  clear hl H1' H3' H5' H6'
  go_enter Try.func37, Try.ntmps37
  go_wp2
  go_loopw [3] (fun i wr => ∃ k e : Nat, k ≤ n ∧ i = .int .i64 (k : Int) ∧ Hid (wr = w.drewN e)) (fun i _ => n - (intOf i).toNat)
  case atStart => exact ⟨0, 0, by omega, rfl, Lib.hid rfl⟩
  case round =>
    obtain ⟨k, e, hk, rfl, HW⟩ := hrel
    have HLr : Hid (OL wr wr.heap.size A n os) := by rw [HW.out]; exact HL
    by_cases hlt : k < n
    · have hi : (k : Int) < (n : Int) := by omega
      obtain ⟨b1, off, hA1, hb, hc1, hc2⟩ := HLr.out.at_ k (by omega)
      subst hA1
      obtain ⟨hby, hgt⟩ := H1.out k hlt
      obtain ⟨x, hx⟩ : ∃ x, (os.getD k ob0).1 = x := ⟨_, rfl⟩
      rw [hx] at hc1 hby hgt
      clear hx hc2
      have CB := Lib.hid (fun W => byteful_yes x W hby.1 hby.2)
      rcases Nat.eq_zero_or_pos k with h0 | h0
      · subst h0
        rw [Nat.zero_mul, Nat.add_zero] at hc1
        clear hgt
        go_wp2
        go_quiet ((go_at_call 62; exact quiet_still (CB.out _)))
        go_wp2
        go_roundw
        case rel => exact ⟨1, _, by omega, by go_num, Lib.hid (drawn_on HW _)⟩
        case measure => simp [intOf]; omega
      · obtain ⟨b2, off2, hAA, _, hd1, _⟩ := HLr.out.at_ (k - 1) (by omega)
        injection hAA with hAA
        injection hAA with e1 e2
        subst e1 e2
        obtain ⟨y, hy⟩ : ∃ y, (os.getD (k - 1) ob0).1 = y := ⟨_, rfl⟩
        have hxy := hgt h0
        rw [hy] at hd1 hxy
        clear hy hgt
        have hk1 : (0 : Int) < (k : Int) := by omega
        have hk2 : IntKind.i64.wrap ((k : Int) - 1) = (k : Int) - 1 := IntWalk.i64_in _ (by omega)
        have hk3 : (0 : Int) ≤ (k : Int) - 1 := by omega
        have hk4 : ((k : Int) - 1).toNat = k - 1 := by omega
        have hk5 : (k : Int) - 1 < (n : Int) := by omega
        have hxy2 : ¬ x ≤ y := by omega
        go_wp2
        go_quiet ((go_at_call 62; exact quiet_still (CB.out _)))
        go_wp2
        go_roundw
        case rel => exact ⟨k + 1, _, by omega, by go_num, Lib.hid (drawn_on HW _)⟩
        case measure => simp [intOf]; omega
    · obtain rfl : n = k := by omega
      go_wp2
      go_loop [4] (fun i => ∃ k : Nat, k ≤ n ∧ i = .int .i64 (k : Int)) (fun i => n - (intOf i).toNat)
      case atStart => exact ⟨0, by omega, rfl⟩
      case round =>
        obtain ⟨k, hk, rfl⟩ := hrel
        by_cases hlt : k < n
        · have hi : (k : Int) < (n : Int) := by omega
          obtain ⟨b1, off, hA1, hb, hc1, hc2⟩ := HLr.out.at_ k (by omega)
          subst hA1
          have hsz := H3.out k hlt
          obtain ⟨S, hS⟩ : ∃ S, (os.getD k ob0).2 = S := ⟨_, rfl⟩
          rw [hS] at hc2 hsz
          clear hS hc1
          have hs2 : ¬ (244 : Int) < (S.size : Int) := by omega
          go_wp2
          go_round
          case rel => exact ⟨k + 1, by omega, by go_num⟩
          case measure => simp [intOf]; omega
        · obtain rfl : n = k := by omega
          go_wp2
          go_loop [5] (fun i => ∃ k : Nat, k ≤ m ∧ i = .int .i64 (k : Int)) (fun i => 3 - (intOf i).toNat)
          case atStart => exact ⟨0, by omega, rfl⟩
          case round =>
            obtain ⟨k, hk, rfl⟩ := hrel
            by_cases hlt : k < m
            · have hi : (k : Int) < 3 := by omega
              obtain ⟨hkn, hid⟩ := H5.out k hlt
              have hlen := HE.out
              rw [hlen] at hkn
              have hin : ¬ (n : Int) ≤ (k : Int) := by omega
              have hin2 : (k : Int) < (n : Int) := by omega
              obtain ⟨b1, off, hA1, hb, hc1, hc2⟩ := HLr.out.at_ k hkn
              subst hA1
              rw [hid] at hc1
              clear hid hc2 hlen
              have hne : ((k : Int) != (k : Int)) = false := by simp
              go_wp2
              go_round
              case rel => exact ⟨k + 1, by omega, by go_num⟩
              case measure => simp [intOf]; omega
            · obtain rfl : m = k := by omega
              have hi : (m : Int) < 3 := by omega
              by_cases hmn : m < n
              · have hin : ¬ (n : Int) ≤ (m : Int) := by omega
                have hin2 : (m : Int) < (n : Int) := by omega
                obtain ⟨b1, off, hA1, hb, hc1, hc2⟩ := HLr.out.at_ m hmn
                subst hA1
                obtain ⟨x, hx⟩ : ∃ x, (os.getD m ob0).1 = x := ⟨_, rfl⟩
                have hxm : ¬ x = (m : Int) := fun h => H6.out ⟨by rw [HE.out]; exact hmn, by rw [hx]; exact h⟩
                rw [hx] at hc1
                clear hx hc2
                have hne : (x != (m : Int)) = true := by simpa using hxm
                go_wp2
                go_ret
                exact ⟨rfl, _, HW.out⟩
              · have hin : (n : Int) ≤ (m : Int) := by omega
                have hin2 : decide (n ≤ m) = true := decide_eq_true (by omega)
                go_wp2
                go_ret
                exact ⟨rfl, _, HW.out⟩

set_option maxHeartbeats 1000000 in
theorem robjects_0 (H1' : ∀ k, k < n → okAt os k) (H3' : ∀ k, k < n → (os.getD k ob0).2.size ≤ 244) (H5' : ∀ k, k < 3 → k < os.length ∧ (os.getD k ob0).1 = (k : Int)) (hl : OL w w.heap.size A n os) (hn : n ≤ 100000) :
    Calls Try.prog 37 #[.slice A n c] w (Quiet (.int .i64 0) w) := by
  have HL := Lib.hid hl
  have HE := Lib.hid hl.len
  have H1 := Lib.hid H1'
  have H3 := Lib.hid H3'
  have H5 := Lib.hid H5'
  clear hl H1' H3' H5'
  go_enter Try.func37, Try.ntmps37
  go_wp2
  go_loopw [3] (fun i wr => ∃ k e : Nat, k ≤ n ∧ i = .int .i64 (k : Int) ∧ Hid (wr = w.drewN e)) (fun i _ => n - (intOf i).toNat)
  case atStart => exact ⟨0, 0, by omega, rfl, Lib.hid rfl⟩
  case round =>
    obtain ⟨k, e, hk, rfl, HW⟩ := hrel
    have HLr : Hid (OL wr wr.heap.size A n os) := by rw [HW.out]; exact HL
    by_cases hlt : k < n
    · have hi : (k : Int) < (n : Int) := by omega
      obtain ⟨b1, off, hA1, hb, hc1, hc2⟩ := HLr.out.at_ k (by omega)
      subst hA1
      obtain ⟨hby, hgt⟩ := H1.out k hlt
      obtain ⟨x, hx⟩ : ∃ x, (os.getD k ob0).1 = x := ⟨_, rfl⟩
      rw [hx] at hc1 hby hgt
      clear hx hc2
      have CB := Lib.hid (fun W => byteful_yes x W hby.1 hby.2)
      rcases Nat.eq_zero_or_pos k with h0 | h0
      · subst h0
        rw [Nat.zero_mul, Nat.add_zero] at hc1
        clear hgt
        go_wp2
        go_quiet ((go_at_call 62; exact quiet_still (CB.out _)))
        go_wp2
        go_roundw
        case rel => exact ⟨1, _, by omega, by go_num, Lib.hid (drawn_on HW _)⟩
        case measure => simp [intOf]; omega
      · obtain ⟨b2, off2, hAA, _, hd1, _⟩ := HLr.out.at_ (k - 1) (by omega)
        injection hAA with hAA
        injection hAA with e1 e2
        subst e1 e2
        obtain ⟨y, hy⟩ : ∃ y, (os.getD (k - 1) ob0).1 = y := ⟨_, rfl⟩
        have hxy := hgt h0
        rw [hy] at hd1 hxy
        clear hy hgt
        have hk1 : (0 : Int) < (k : Int) := by omega
        have hk2 : IntKind.i64.wrap ((k : Int) - 1) = (k : Int) - 1 := IntWalk.i64_in _ (by omega)
        have hk3 : (0 : Int) ≤ (k : Int) - 1 := by omega
        have hk4 : ((k : Int) - 1).toNat = k - 1 := by omega
        have hk5 : (k : Int) - 1 < (n : Int) := by omega
        have hxy2 : ¬ x ≤ y := by omega
        go_wp2
        go_quiet ((go_at_call 62; exact quiet_still (CB.out _)))
        go_wp2
        go_roundw
        case rel => exact ⟨k + 1, _, by omega, by go_num, Lib.hid (drawn_on HW _)⟩
        case measure => simp [intOf]; omega
    · obtain rfl : n = k := by omega
      go_wp2
      go_loop [4] (fun i => ∃ k : Nat, k ≤ n ∧ i = .int .i64 (k : Int)) (fun i => n - (intOf i).toNat)
      case atStart => exact ⟨0, by omega, rfl⟩
      case round =>
        obtain ⟨k, hk, rfl⟩ := hrel
        by_cases hlt : k < n
        · have hi : (k : Int) < (n : Int) := by omega
          obtain ⟨b1, off, hA1, hb, hc1, hc2⟩ := HLr.out.at_ k (by omega)
          subst hA1
          have hsz := H3.out k hlt
          obtain ⟨S, hS⟩ : ∃ S, (os.getD k ob0).2 = S := ⟨_, rfl⟩
          rw [hS] at hc2 hsz
          clear hS hc1
          have hs2 : ¬ (244 : Int) < (S.size : Int) := by omega
          go_wp2
          go_round
          case rel => exact ⟨k + 1, by omega, by go_num⟩
          case measure => simp [intOf]; omega
        · obtain rfl : n = k := by omega
          go_wp2
          go_loop [5] (fun i => ∃ k : Nat, k ≤ 3 ∧ i = .int .i64 (k : Int)) (fun i => 3 - (intOf i).toNat)
          case atStart => exact ⟨0, by omega, rfl⟩
          case round =>
            obtain ⟨k, hk, rfl⟩ := hrel
            by_cases hlt : k < 3
            · have hi : (k : Int) < 3 := by omega
              obtain ⟨hkn, hid⟩ := H5.out k hlt
              have hlen := HE.out
              rw [hlen] at hkn
              have hin : ¬ (n : Int) ≤ (k : Int) := by omega
              have hin2 : (k : Int) < (n : Int) := by omega
              obtain ⟨b1, off, hA1, hb, hc1, hc2⟩ := HLr.out.at_ k hkn
              subst hA1
              rw [hid] at hc1
              clear hid hc2 hlen
              have hne : ((k : Int) != (k : Int)) = false := by simp
              go_wp2
              go_round
              case rel => exact ⟨k + 1, by omega, by go_num⟩
              case measure => simp [intOf]; omega
            · obtain rfl : k = 3 := by omega
              go_wp2
              go_ret
              exact ⟨rfl, _, HW.out⟩

/-! Behind them. -/

theorem first_bad (p : Nat → Prop) [∀ k, Decidable (p k)] (n : Nat) : (∀ k, k < n → p k) ∨ ∃ m, m < n ∧ (∀ k, k < m → p k) ∧ ¬ p m := by
  induction n with
  | zero => exact .inl fun k hk => by omega
  | succ n ih =>
    rcases ih with h | ⟨m, hm, h1, h2⟩
    · by_cases hp : p n
      · refine .inl fun k hk => ?_
        rcases Nat.lt_or_ge k n with h3 | h3
        · exact h k h3
        · have h4 : k = n := by omega
          rw [h4]; exact hp
      · exact .inr ⟨n, by omega, h, hp⟩
    · exact .inr ⟨m, by omega, h1, h2⟩

theorem ishort_any (b : Bool) (hl : OL w w.heap.size A n os) (hn : n ≤ 100000) (hb : decide (shortP os) = b) : Calls Try.prog 83 #[.slice A n c] w (Quiet (.bool b) w) := by
  subst hb
  have hlen := hl.len
  rcases first_bad (fun k => (os.getD k ob0).2.size ≤ 244) n with h | ⟨m, hm, h1, h2⟩
  · rw [decide_eq_true (show shortP os from fun k hk => h k (by omega))]
    exact ishort_yes A n c os w h hl hn
  · rw [decide_eq_false (show ¬ shortP os from fun h => h2 (h m (by omega)))]
    exact ishort_no A n c os w m hm h1 h2 hl hn
theorem ienough_any (b : Bool) (hl : OL w w.heap.size A n os) (hn : n ≤ 100000) (hb : decide (enoughP os) = b) : Calls Try.prog 84 #[.slice A n c] w (Quiet (.bool b) w) := by
  subst hb
  rcases first_bad (fun k => k < os.length ∧ (os.getD k ob0).1 = (k : Int)) 3 with h | ⟨m, hm, h1, h2⟩
  · rw [decide_eq_true (show enoughP os from h)]
    exact ienough_yes A n c os w h hl hn
  · rw [decide_eq_false (show ¬ enoughP os from fun h => h2 (h m hm))]
    exact ienough_no A n c os w m hm h1 h2 hl hn
theorem robjects_any (v : Int) (hl : OL w w.heap.size A n os) (hn : n ≤ 100000) (hv : checkOf os = v) : Calls Try.prog 37 #[.slice A n c] w (Quiet (.int .i64 v) w) := by
  subst hv
  have hlen := hl.len
  unfold checkOf
  rcases first_bad (okAt os) n with h | ⟨m, hm, h1, h2⟩
  · rw [if_pos (show riseP os from fun k hk => h k (by omega))]
    rcases first_bad (fun k => (os.getD k ob0).2.size ≤ 244) n with h3 | ⟨m, hm, h3, h4⟩
    · rw [if_pos (show shortP os from fun k hk => h3 k (by omega))]
      rcases first_bad (fun k => k < os.length ∧ (os.getD k ob0).1 = (k : Int)) 3 with h5 | ⟨m, hm, h5, h6⟩
      · rw [if_pos (show enoughP os from h5)]
        exact robjects_0 A n c os w h h3 h5 hl hn
      · rw [if_neg (show ¬ enoughP os from fun h => h6 (h m hm))]
        exact robjects_5 A n c os w h h3 m hm h5 h6 hl hn
    · rw [if_neg (show ¬ shortP os from fun h => h4 (h m (by omega)))]
      exact robjects_4 A n c os w h m hm h3 h4 hl hn
  · rw [if_neg (show ¬ riseP os from fun h => h2 (h m (by omega)))]
    exact robjects_1 A n c os w m hm h1 h2 hl hn
theorem icheck_any (v : Int) (hl : OL w w.heap.size A n os) (hn : n ≤ 100000) (hv : checkOf os = v) : Calls Try.prog 36 #[.slice A n c] w (Quiet (.int .i64 v) w) := by
  subst hv
  have HL := Lib.hid (fun d => (show OL (w.drewN d) (w.drewN d).heap.size A n os from hl))
  have HL0 := Lib.hid hl
  unfold checkOf
  by_cases h1 : riseP os
  · have C1 := Lib.hid (irise_any A n c os w true hl hn (decide_eq_true h1))
    by_cases h2 : shortP os
    · have C2 := Lib.hid (fun d => ishort_any A n c os (w.drewN d) true (HL.out d) hn (decide_eq_true h2))
      by_cases h3 : enoughP os
      · have C3 := Lib.hid (fun d => ienough_any A n c os (w.drewN d) true (HL.out d) hn (decide_eq_true h3))
        rw [if_pos h1, if_pos h2, if_pos h3]
        clear h1 h2 h3 hl
        go_enter Try.func36, Try.ntmps36
        go_wp2_with (first
          | (go_at_call 82; refine C1.out.mono ?_; rintro e w' ⟨rfl, d, rfl⟩)
          | (go_at_call 83; refine (C2.out _).mono ?_; rintro e w' ⟨rfl, d2, rfl⟩)
          | (go_at_call 84; refine (C3.out _).mono ?_; rintro e w' ⟨rfl, d3, rfl⟩))
        go_ret
        exact ⟨rfl, _, rfl⟩
      · have C3 := Lib.hid (fun d => ienough_any A n c os (w.drewN d) false (HL.out d) hn (decide_eq_false h3))
        rw [if_pos h1, if_pos h2, if_neg h3]
        clear h1 h2 h3 hl
        go_enter Try.func36, Try.ntmps36
        go_wp2_with (first
          | (go_at_call 82; refine C1.out.mono ?_; rintro e w' ⟨rfl, d, rfl⟩)
          | (go_at_call 83; refine (C2.out _).mono ?_; rintro e w' ⟨rfl, d2, rfl⟩)
          | (go_at_call 84; refine (C3.out _).mono ?_; rintro e w' ⟨rfl, d3, rfl⟩))
        go_ret
        exact ⟨rfl, _, rfl⟩
    · have C2 := Lib.hid (fun d => ishort_any A n c os (w.drewN d) false (HL.out d) hn (decide_eq_false h2))
      rw [if_pos h1, if_neg h2]
      clear h1 h2 hl
      go_enter Try.func36, Try.ntmps36
      go_wp2_with (first
        | (go_at_call 82; refine C1.out.mono ?_; rintro e w' ⟨rfl, d, rfl⟩)
        | (go_at_call 83; refine (C2.out _).mono ?_; rintro e w' ⟨rfl, d2, rfl⟩))
      go_ret
      exact ⟨rfl, _, rfl⟩
  · have C1 := Lib.hid (irise_any A n c os w false hl hn (decide_eq_false h1))
    rw [if_neg h1]
    clear h1 hl
    go_enter Try.func36, Try.ntmps36
    go_wp2_with (go_at_call 82; refine C1.out.mono ?_; rintro e w' ⟨rfl, d, rfl⟩)
    go_ret
    exact ⟨rfl, _, rfl⟩

/-- The document's Level, of objects whose Ids rise. -/
theorem rlevel_any (v : Int) (hg : goodL os) (hl : OL w w.heap.size A n os) (hv : levelOf os = v) : Calls Try.prog 40 #[.slice A n c] w (Quiet (.int .i64 v) w) := by
  subst hv
  have hlen := hl.len
  subst hlen
  have h43 := hg.l43
  have HL := Lib.hid hl
  have HG := Lib.hid hg
  obtain ⟨u1, hu1⟩ : ∃ u, upN os 127 = u := ⟨_, rfl⟩
  obtain ⟨u2, hu2⟩ : ∃ u, upN os 2 = u := ⟨_, rfl⟩
  have HI1 : Hid (∀ k, k < os.length → ((os.getD k ob0).1 ≤ 127 ↔ k < u1)) := Lib.hid (by rw [← hu1]; exact hg.in_ 127)
  have HI2 : Hid (∀ k, k < os.length → ((os.getD k ob0).1 ≤ 2 ↔ k < u2)) := Lib.hid (by rw [← hu2]; exact hg.in_ 2)
  have h12 : u2 ≤ u1 := by
    rcases Nat.lt_or_ge u1 u2 with h | h
    · have h5 := upN_le os 2
      rw [hu2] at h5
      have h3 := (hg.in_ 2 u1 (by omega)).2 (by omega)
      have h4 := (hg.in_ 127 u1 (by omega)).1 (by omega)
      omega
    · exact h
  unfold levelOf
  rw [hu1, hu2]
  have HV : Hid (∀ q : Int, (q = if u1 < os.length then 131 else if u2 < os.length then 130 else 129) ↔ (q = if u1 < os.length then 131 else if u2 < os.length then 130 else 129)) := Lib.hid fun _ => Iff.rfl
  obtain ⟨R, hR⟩ : ∃ R : Int, (if u1 < os.length then (131 : Int) else if u2 < os.length then 130 else 129) = R := ⟨_, rfl⟩
  rw [hR]
  have HR := Lib.hid hR
  clear hR hl hg hu1 hu2 HV
  go_enter Try.func40, Try.ntmps40
  go_wp2
  go_loop [3, 4] (fun q i => ∃ (k : Nat) (x : Int), k ≤ os.length ∧ i = .int .i64 (k : Int) ∧ q = .int .i64 x ∧ 129 ≤ x ∧ x ≤ 131 ∧ Hid (x = if u1 < k then 131 else if u2 < k then 130 else 129)) (fun _ i => os.length - (intOf i).toNat)
  case atStart => exact ⟨0, 129, by omega, rfl, rfl, by omega, by omega, Lib.hid (by simp)⟩
  case round =>
    obtain ⟨k, x, hk, rfl, rfl, hx1, hx2, HX⟩ := hrel
    by_cases hlt : k < os.length
    · have hi : (k : Int) < (os.length : Int) := by omega
      obtain ⟨b1, off, hA1, hb, hc1, hc2⟩ := HL.out.at_ k hlt
      subst hA1
      have h1 := HI1.out k hlt
      have h2 := HI2.out k hlt
      obtain ⟨y, hy⟩ : ∃ y, (os.getD k ob0).1 = y := ⟨_, rfl⟩
      rw [hy] at hc1 h1 h2
      clear hy hc2
      by_cases hy1 : 127 < y
      · have HK : Hid (¬ k < u1) := Lib.hid fun h => by have := h1.2 h; omega
        clear h1 h2
        go_wp2
        go_round
        case rel => exact ⟨k + 1, 131, by omega, by go_num, rfl, by omega, by omega, Lib.hid (by rw [if_pos (by have := HK.out; omega)])⟩
        case measure => simp [intOf]; omega
      · have HK : Hid (k < u1) := Lib.hid (h1.1 (by omega))
        by_cases hy2 : 2 < y
        · have HK2 : Hid (¬ k < u2) := Lib.hid fun h => by have := h2.2 h; omega
          clear h1 h2
          by_cases hx3 : x < 130
          · go_wp2
            go_round
            case rel => exact ⟨k + 1, 130, by omega, by go_num, rfl, by omega, by omega, Lib.hid (by rw [if_neg (by have := HK.out; omega), if_pos (by have := HK2.out; omega)])⟩
            case measure => simp [intOf]; omega
          · go_wp2
            go_round
            case rel =>
              refine ⟨k + 1, x, by omega, by go_num, rfl, by omega, by omega, Lib.hid ?_⟩
              have h := HX.out
              have h3 := HK.out
              have h4 := HK2.out
              rw [if_neg (by omega)] at h
              rw [if_neg (by omega), if_pos (by omega)]
              split at h <;> omega
            case measure => simp [intOf]; omega
        · have HK2 : Hid (k < u2) := Lib.hid (h2.1 (by omega))
          clear h1 h2
          go_wp2
          go_round
          case rel =>
            refine ⟨k + 1, x, by omega, by go_num, rfl, by omega, by omega, Lib.hid ?_⟩
            have h := HX.out
            have h3 := HK.out
            have h4 := HK2.out
            rw [if_neg (by omega), if_neg (by omega)] at h
            rw [if_neg (by omega), if_neg (by omega)]
            exact h
          case measure => simp [intOf]; omega
    · have hi : ¬ (k : Int) < (os.length : Int) := by omega
      have hi2 : decide (k < os.length) = false := decide_eq_false hlt
      go_wp2
      go_ret
      refine ⟨ret_int ?_, 0, rfl⟩
      have h := HX.out
      have hkk : k = os.length := by omega
      rw [hkk, HR.out] at h
      exact h
end

end Go.Proofs.Ytiomhabdnajieaa

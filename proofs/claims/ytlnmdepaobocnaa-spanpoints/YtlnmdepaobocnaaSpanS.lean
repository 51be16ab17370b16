/- sort.Search: the first place at which a closure answers true. No statement is proved here. -/
import Derived.Test.YtlnmdepaobocnaaGen
namespace Go.Proofs.Ytlnmdepaobocnaa
open Go.ChangeShapes Go.WideShapes Go.ChangeAt Go.RowKit
set_option linter.unusedVariables false
set_option linter.unusedSimpArgs false

theorem half_s (lo hi : Nat) (h1 : lo < hi) : ∃ m : Nat, ((lo : Int) + (hi : Int)) / 2 = (m : Int) ∧ lo ≤ m ∧ m < hi := ⟨(lo + hi) / 2, by omega, by omega, by omega⟩

set_option maxRecDepth 100000 in
set_option maxHeartbeats 2000000 in
theorem search_any (g : Nat) (cb : Array Value) (n : Nat) (p : Nat → Bool) (w : World) (eg : ∀ args w, (callFunc g args).run Try.prog w = .ok (.enter g args) w) (hn : n ≤ 1000000)
    (hf : ∀ (W : World) (i : Nat), Below w.heap.size w W → i < n → Calls Try.prog g (#[.int .i64 i] ++ cb) W fun e w' => e = .returned (.bool (p i)) ∧ Below W.heap.size W w')
    (hm : ∀ a b, a ≤ b → b < n → p a = true → p b = true) :
    Calls Try.prog 40 #[.int .i64 n, .func (.func g) #[] cb] w fun e w' => (∃ k : Nat, e = .returned (.int .i64 k) ∧ k ≤ n ∧ (∀ t, t < k → p t = false) ∧ (∀ t, k ≤ t → t < n → p t = true)) ∧ Below w.heap.size w w' := by
  have HF := Lib.hid hf
  have HM := Lib.hid hm
  clear hf hm
  go_enter Try.func40, Try.ntmps40
  go_wp2
  go_loopw [5, 6] (fun l r wr => ∃ lo hi : Nat, lo ≤ hi ∧ hi ≤ n ∧ l = .int .i64 (lo : Int) ∧ r = .int .i64 (hi : Int) ∧ Hid (Below w.heap.size w wr) ∧ Hid ((∀ t, t < lo → p t = false) ∧ (∀ t, hi ≤ t → t < n → p t = true))) (fun l r _ => (intOf r).toNat - (intOf l).toNat)
  case atStart => exact ⟨0, n, by omega, by omega, rfl, rfl, Lib.hid (Below.refl _ _), Lib.hid ⟨fun t ht => absurd ht (Nat.not_lt_zero _), fun t h1 h2 => by omega⟩⟩
  case round =>
    obtain ⟨lo, hi, hlh, hhn, rfl, rfl, HB, HI⟩ := hrel
    by_cases hlt : lo < hi
    · have hlt' : (lo : Int) < (hi : Int) := by omega
      obtain ⟨m, hm, hm1, hm2⟩ := half_s lo hi hlt
      have hc := HF.out wr m HB.out (by omega)
      rw [← hm] at hc
      have HM1 := Lib.hid hm
      clear hm
      cases hp : p m <;> rw [hp] at hc
      · have HP := Lib.hid hp
        clear hp
        go_wp2_with (with_reducible refine hc.mono ?_; rintro e w' ⟨rfl, hb'⟩)
        have HB2 := Lib.hid (HB.out.trans (hb'.mono HB.out.size))
        go_roundw
        case rel =>
          refine ⟨m + 1, hi, by omega, hhn, by rw [HM1.out]; go_num, rfl, HB2, Lib.hid ⟨fun t ht => ?_, HI.out.2⟩⟩
          cases h : p t with
          | false => rfl
          | true => have := HM.out t m (by omega) (by omega) h; rw [HP.out] at this; cases this
        case measure => have := HM1.out; simp [intOf]; omega
      · have HP := Lib.hid hp
        clear hp
        go_wp2_with (with_reducible refine hc.mono ?_; rintro e w' ⟨rfl, hb'⟩)
        have HB2 := Lib.hid (HB.out.trans (hb'.mono HB.out.size))
        go_roundw
        case rel => exact ⟨lo, m, by omega, by omega, rfl, by rw [HM1.out], HB2, Lib.hid ⟨HI.out.1, fun t ht htn => HM.out m t ht htn HP.out⟩⟩
        case measure => have := HM1.out; simp [intOf]; omega
    · obtain rfl : hi = lo := by omega
      have hge : ¬ (hi : Int) < (hi : Int) := by omega
      go_wp2
      go_ret
      exact ⟨⟨hi, rfl, hhn, HI.out.1, HI.out.2⟩, HB.out⟩

end Go.Proofs.Ytlnmdepaobocnaa

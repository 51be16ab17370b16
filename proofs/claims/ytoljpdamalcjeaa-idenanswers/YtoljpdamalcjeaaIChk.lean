/- Package iden: Check, of the program and of the document; Level of the document. -/
import Derived.Test.YtoljpdamalcjeaaIdenA
namespace Go.Proofs.Ytoljpdamalcjeaa
open Go.ChangeShapes Go.WideShapes Go.ChangeAt Go.RowKit
set_option linter.unusedVariables false
set_option linter.unusedSimpArgs false

def okAt (os : List Ob) (k : Nat) : Prop := (0 ≤ (os.getD k ob0).1 ∧ (os.getD k ob0).1 ≤ 255) ∧ (0 < k → (os.getD (k - 1) ob0).1 < (os.getD k ob0).1)
instance (os : List Ob) (k : Nat) : Decidable (okAt os k) := by unfold okAt; infer_instance
def riseP (os : List Ob) : Prop := ∀ k, k < os.length → okAt os k
def shortP (os : List Ob) : Prop := ∀ k, k < os.length → (os.getD k ob0).2.size ≤ 244
def enoughP (os : List Ob) : Prop := ∀ k, k < 3 → k < os.length ∧ (os.getD k ob0).1 = (k : Int)
instance (os : List Ob) : Decidable (riseP os) := by unfold riseP; infer_instance
instance (os : List Ob) : Decidable (shortP os) := by unfold shortP; infer_instance
instance (os : List Ob) : Decidable (enoughP os) := by unfold enoughP; infer_instance
/-- What Check answers. -/
def checkOf (os : List Ob) : Int := if riseP os then if shortP os then if enoughP os then 0 else 5 else 4 else 1

theorem drawn_on {w wr : World} {e : Nat} (h : Hid (wr = w.drewN e)) (n : Nat) : wr.drewN n = w.drewN (e + n) := by rw [h.out, World.drewN_drewN]

section
variable (A : Option Addr) (n c : Nat) (os : List Ob) (w : World)

theorem first_bad (p : Nat → Prop) [∀ k, Decidable (p k)] (n : Nat) : (∀ k, k < n → p k) ∨ ∃ m, m < n ∧ (∀ k, k < m → p k) ∧ ¬ p m := by
  induction n with
  | zero => exact .inl fun k hk => by omega
  | succ n ih =>
    rcases ih with h | ⟨m, hm, h1, h2⟩
    · by_cases hp : p n
      · refine .inl fun k hk => ?_
        rcases Nat.lt_or_ge k n with h3 | h3
        · exact h k h3
        · have h4 : k = n := by omega
          rw [h4]; exact hp
      · exact .inr ⟨n, by omega, h, hp⟩
    · exact .inr ⟨m, by omega, h1, h2⟩

/-- The document's Level, of objects whose Ids rise. -/
theorem rlevel_any (v : Int) (hg : goodL os) (hl : OL w w.heap.size A n os) (hv : levelOf os = v) : Calls Try.prog 96 #[.slice A n c] w (Quiet (.int .i64 v) w) := by
  subst hv
  have hlen := hl.len
  subst hlen
  have h43 := hg.l43
  have HL := Lib.hid hl
  have HG := Lib.hid hg
  obtain ⟨u1, hu1⟩ : ∃ u, upN os 127 = u := ⟨_, rfl⟩
  obtain ⟨u2, hu2⟩ : ∃ u, upN os 2 = u := ⟨_, rfl⟩
  have HI1 : Hid (∀ k, k < os.length → ((os.getD k ob0).1 ≤ 127 ↔ k < u1)) := Lib.hid (by rw [← hu1]; exact hg.in_ 127)
  have HI2 : Hid (∀ k, k < os.length → ((os.getD k ob0).1 ≤ 2 ↔ k < u2)) := Lib.hid (by rw [← hu2]; exact hg.in_ 2)
  have h12 : u2 ≤ u1 := by
    rcases Nat.lt_or_ge u1 u2 with h | h
    · have h5 := upN_le os 2
      rw [hu2] at h5
      have h3 := (hg.in_ 2 u1 (by omega)).2 (by omega)
      have h4 := (hg.in_ 127 u1 (by omega)).1 (by omega)
      omega
    · exact h
  unfold levelOf
  rw [hu1, hu2]
  have HV : Hid (∀ q : Int, (q = if u1 < os.length then 131 else if u2 < os.length then 130 else 129) ↔ (q = if u1 < os.length then 131 else if u2 < os.length then 130 else 129)) := Lib.hid fun _ => Iff.rfl
  obtain ⟨R, hR⟩ : ∃ R : Int, (if u1 < os.length then (131 : Int) else if u2 < os.length then 130 else 129) = R := ⟨_, rfl⟩
  rw [hR]
  have HR := Lib.hid hR
  clear hR hl hg hu1 hu2 HV
  go_enter Try.func96, Try.ntmps96
  go_wp2
  go_loop [3, 4] (fun q i => ∃ (k : Nat) (x : Int), k ≤ os.length ∧ i = .int .i64 (k : Int) ∧ q = .int .i64 x ∧ 129 ≤ x ∧ x ≤ 131 ∧ Hid (x = if u1 < k then 131 else if u2 < k then 130 else 129)) (fun _ i => os.length - (intOf i).toNat)
  case atStart => exact ⟨0, 129, by omega, rfl, rfl, by omega, by omega, Lib.hid (by simp)⟩
  case round =>
    obtain ⟨k, x, hk, rfl, rfl, hx1, hx2, HX⟩ := hrel
    by_cases hlt : k < os.length
    · have hi : (k : Int) < (os.length : Int) := by omega
      obtain ⟨b1, off, hA1, hb, hc1, hc2⟩ := HL.out.at_ k hlt
      subst hA1
      have h1 := HI1.out k hlt
      have h2 := HI2.out k hlt
      obtain ⟨y, hy⟩ : ∃ y, (os.getD k ob0).1 = y := ⟨_, rfl⟩
      rw [hy] at hc1 h1 h2
      clear hy hc2
      by_cases hy1 : 127 < y
      · have HK : Hid (¬ k < u1) := Lib.hid fun h => by have := h1.2 h; omega
        clear h1 h2
        go_wp2
        go_round
        case rel => exact ⟨k + 1, 131, by omega, by go_num, rfl, by omega, by omega, Lib.hid (by rw [if_pos (by have := HK.out; omega)])⟩
        case measure => simp [intOf]; omega
      · have HK : Hid (k < u1) := Lib.hid (h1.1 (by omega))
        by_cases hy2 : 2 < y
        · have HK2 : Hid (¬ k < u2) := Lib.hid fun h => by have := h2.2 h; omega
          clear h1 h2
          by_cases hx3 : x < 130
          · go_wp2
            go_round
            case rel => exact ⟨k + 1, 130, by omega, by go_num, rfl, by omega, by omega, Lib.hid (by rw [if_neg (by have := HK.out; omega), if_pos (by have := HK2.out; omega)])⟩
            case measure => simp [intOf]; omega
          · go_wp2
            go_round
            case rel =>
              refine ⟨k + 1, x, by omega, by go_num, rfl, by omega, by omega, Lib.hid ?_⟩
              have h := HX.out
              have h3 := HK.out
              have h4 := HK2.out
              rw [if_neg (by omega)] at h
              rw [if_neg (by omega), if_pos (by omega)]
              split at h <;> omega
            case measure => simp [intOf]; omega
        · have HK2 : Hid (k < u2) := Lib.hid (h2.1 (by omega))
          clear h1 h2
          go_wp2
          go_round
          case rel =>
            refine ⟨k + 1, x, by omega, by go_num, rfl, by omega, by omega, Lib.hid ?_⟩
            have h := HX.out
            have h3 := HK.out
            have h4 := HK2.out
            rw [if_neg (by omega), if_neg (by omega)] at h
            rw [if_neg (by omega), if_neg (by omega)]
            exact h
          case measure => simp [intOf]; omega
    · have hi : ¬ (k : Int) < (os.length : Int) := by omega
      have hi2 : decide (k < os.length) = false := decide_eq_false hlt
      go_wp2
      go_ret
      refine ⟨ret_int ?_, 0, rfl⟩
      have h := HX.out
      have hkk : k = os.length := by omega
      rw [hkk, HR.out] at h
      exact h
end

end Go.Proofs.Ytoljpdamalcjeaa

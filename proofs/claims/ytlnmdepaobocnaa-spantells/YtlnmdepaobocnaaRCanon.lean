/- The document's lists of spans: Canon. No statement is proved here. -/
import Derived.Test.YtlnmdepaobocnaaSpan2
import Derived.Test.YtlnmdepaobocnaaSpanM
namespace Go.Proofs.Ytlnmdepaobocnaa
open Go.ChangeShapes Go.WideShapes Go.ChangeAt Go.RowKit
set_option linter.unusedVariables false
set_option linter.unusedSimpArgs false

theorem adj_on {l : List Sp} {k : Nat} (h : adjS l k) (hr : rightS (l.getD k (0, 0, 0))) (ha : 0 < k → ltS (l.getD (k - 1) (0, 0, 0)) (l.getD k (0, 0, 0))) : adjS l (k + 1) := fun i hi => by
  rcases Nat.lt_or_eq_of_le (Nat.le_of_lt_succ hi) with h1 | rfl
  · exact h i h1
  · exact ⟨hr, ha⟩

set_option maxRecDepth 100000 in
set_option maxHeartbeats 8000000 in
theorem rcanon_any (A : Option Addr) (n c : Nat) (l : List Sp) (b : Bool) (w : World) (hl : SL w A n l) (hb : b = true ↔ adjS l n) (hn : n ≤ 100000) :
    Calls Try.prog 14 #[.slice A n c] w fun e w' => e = .returned (.bool b) ∧ Below w.heap.size w w' := by
  have HL := Lib.hid hl
  have HN := Lib.hid hl.len
  have HB := Lib.hid hb
  clear hl hb
  go_enter Try.func14, Try.ntmps14
  go_wp2
  go_loopw [3] (fun i wr => ∃ k : Nat, k ≤ n ∧ i = .int .i64 (k : Int) ∧ Hid (adjS l k) ∧ Hid (Below w.heap.size w wr)) (fun i _ => n - (intOf i).toNat)
  case atStart => exact ⟨0, by omega, rfl, Lib.hid (fun i hi => absurd hi (by omega)), Lib.hid (Below.refl _ _)⟩
  case round =>
    obtain ⟨k, hkn, rfl, HA, HR⟩ := hrel
    by_cases hlt : k < n
    · have hlt' : (k : Int) < (n : Int) := by omega
      have hk0 : (0 : Int) ≤ (k : Int) := by omega
      obtain ⟨b0, off, rfl, hbs, c0, c1, c2⟩ := (HL.out.below HR.out).at_ k hlt
      obtain ⟨s, hs⟩ : ∃ s, l.getD k sp0 = s := ⟨_, rfl⟩
      rw [hs] at c0 c1 c2
      have HSX := Lib.hid hs
      obtain ⟨st, sf, su⟩ := s
      dsimp only at c0 c1 c2
      clear hs
      by_cases hr : rightS (st, sf, su)
      · have CR : Hid (∀ X, Calls Try.prog 12 #[.agg #[.int .i64 st, .int .i64 sf, .int .i64 su]] X fun e w' => e = .returned (.bool true) ∧ Below X.heap.size X w') := Lib.hid fun X => rright12 (st, sf, su) true X (by simp [hr])
        by_cases hk : k = 0
        · have HNX : Hid (adjS l (k + 1)) := Lib.hid (adj_on HA.out (by have := HSX.out; unfold sp0 at this; rw [this]; exact hr) (fun h => absurd h (by omega)))
          have hkz : decide (0 < k) = false := decide_eq_false (by omega)
          clear hr hk
          go_wp2_with (first
            | (go_at_call 12
               (with_reducible refine (CR.out _).mono ?_)
               rintro e w2 ⟨rfl, hb2⟩
               have v0 := (hb2.cell (p := ⟨b0, off + k * 3, none⟩) hbs).trans c0
               have v1 := (hb2.cell (p := ⟨b0, off + k * 3 + 1, none⟩) hbs).trans c1
               have v2 := (hb2.cell (p := ⟨b0, off + k * 3 + 2, none⟩) hbs).trans c2
               have HB2 := Lib.hid (HR.out.trans (hb2.mono HR.out.size))
               clear hb2))
          all_goals go_quiet (fail)
          all_goals go_wp2
          all_goals exact ⟨⟨k + 1, by omega, by go_num, HNX, Lib.hid (below_drewN HB2.out _)⟩, by simp [intOf]; omega⟩
        · obtain ⟨b0', off', hA', _, d0, d1, d2⟩ := (HL.out.below HR.out).at_ (k - 1) (by omega)
          injection hA' with hA'
          injection hA' with r1 r2 r3
          subst r1 r2
          have hkz : 0 < k := by omega
          have hkm : (k : Int) - 1 = ((k - 1 : Nat) : Int) := by omega
          have hkn1 : ((k - 1 : Nat) : Int) < (n : Int) := by omega
          have hkn2 : (0 : Int) ≤ ((k - 1 : Nat) : Int) := by omega
          obtain ⟨p, hp⟩ : ∃ p, l.getD (k - 1) sp0 = p := ⟨_, rfl⟩
          rw [hp] at d0 d1 d2
          have HPX := Lib.hid hp
          obtain ⟨pt, pf, pu⟩ := p
          dsimp only at d0 d1 d2
          obtain ⟨k1, hk1⟩ : ∃ k1, k - 1 = k1 := ⟨_, rfl⟩
          rw [hk1] at d0 d1 d2 hkm hkn1 hkn2
          have hkw : IntKind.i64.wrap (k1 : Int) = (k1 : Int) := IntWalk.i64_in _ (by omega)
          clear hp r3 hk1
          by_cases h1 : pt = st
          · by_cases h2 : sf ≤ pu
            · obtain rfl : b = false := Bool.eq_false_iff.2 fun h => by
                have q := ((HB.out.1 h) k hlt).2 (by omega)
                have q1 := HSX.out
                have q2 := HPX.out
                unfold sp0 at q1 q2
                rw [q1, q2] at q
                unfold ltS at q
                dsimp only at q
                omega
              subst h1
              clear hr hk
              go_wp2_with (first
                | (go_at_call 12
                   (with_reducible refine (CR.out _).mono ?_)
                   rintro e w2 ⟨rfl, hb2⟩
                   have v0 := (hb2.cell (p := ⟨b0, off + k * 3, none⟩) hbs).trans c0
                   have v1 := (hb2.cell (p := ⟨b0, off + k * 3 + 1, none⟩) hbs).trans c1
                   have v2 := (hb2.cell (p := ⟨b0, off + k * 3 + 2, none⟩) hbs).trans c2
                   have u0 := (hb2.cell (p := ⟨b0, off + k1 * 3, none⟩) hbs).trans d0
                   have u1 := (hb2.cell (p := ⟨b0, off + k1 * 3 + 1, none⟩) hbs).trans d1
                   have u2 := (hb2.cell (p := ⟨b0, off + k1 * 3 + 2, none⟩) hbs).trans d2
                   have HB2 := Lib.hid (HR.out.trans (hb2.mono HR.out.size))
                   clear hb2))
              all_goals go_quiet (fail)
              all_goals go_wp2
              all_goals go_ret
              all_goals exact ⟨rfl, below_drewN HB2.out _⟩
            · have HNX : Hid (adjS l (k + 1)) := Lib.hid (adj_on HA.out (by have := HSX.out; unfold sp0 at this; rw [this]; exact hr) (fun _ => by have q1 := HSX.out; have q2 := HPX.out; unfold sp0 at q1 q2; rw [q1, q2]; unfold ltS; dsimp only; omega))
              subst h1
              have h2f : decide (sf ≤ pu) = false := decide_eq_false h2
              clear hr hk h2
              go_wp2_with (first
                | (go_at_call 12
                   (with_reducible refine (CR.out _).mono ?_)
                   rintro e w2 ⟨rfl, hb2⟩
                   have v0 := (hb2.cell (p := ⟨b0, off + k * 3, none⟩) hbs).trans c0
                   have v1 := (hb2.cell (p := ⟨b0, off + k * 3 + 1, none⟩) hbs).trans c1
                   have v2 := (hb2.cell (p := ⟨b0, off + k * 3 + 2, none⟩) hbs).trans c2
                   have u0 := (hb2.cell (p := ⟨b0, off + k1 * 3, none⟩) hbs).trans d0
                   have u1 := (hb2.cell (p := ⟨b0, off + k1 * 3 + 1, none⟩) hbs).trans d1
                   have u2 := (hb2.cell (p := ⟨b0, off + k1 * 3 + 2, none⟩) hbs).trans d2
                   have HB2 := Lib.hid (HR.out.trans (hb2.mono HR.out.size))
                   clear hb2))
              all_goals go_quiet (fail)
              all_goals go_wp2
              all_goals exact ⟨⟨k + 1, by omega, by go_num, HNX, Lib.hid (below_drewN HB2.out _)⟩, by simp [intOf]; omega⟩
          · by_cases h2 : st < pt
            · obtain rfl : b = false := Bool.eq_false_iff.2 fun h => by
                have q := ((HB.out.1 h) k hlt).2 (by omega)
                have q1 := HSX.out
                have q2 := HPX.out
                unfold sp0 at q1 q2
                rw [q1, q2] at q
                unfold ltS at q
                dsimp only at q
                omega
              clear hr hk
              go_wp2_with (first
                | (go_at_call 12
                   (with_reducible refine (CR.out _).mono ?_)
                   rintro e w2 ⟨rfl, hb2⟩
                   have v0 := (hb2.cell (p := ⟨b0, off + k * 3, none⟩) hbs).trans c0
                   have v1 := (hb2.cell (p := ⟨b0, off + k * 3 + 1, none⟩) hbs).trans c1
                   have v2 := (hb2.cell (p := ⟨b0, off + k * 3 + 2, none⟩) hbs).trans c2
                   have u0 := (hb2.cell (p := ⟨b0, off + k1 * 3, none⟩) hbs).trans d0
                   have u1 := (hb2.cell (p := ⟨b0, off + k1 * 3 + 1, none⟩) hbs).trans d1
                   have u2 := (hb2.cell (p := ⟨b0, off + k1 * 3 + 2, none⟩) hbs).trans d2
                   have HB2 := Lib.hid (HR.out.trans (hb2.mono HR.out.size))
                   clear hb2))
              all_goals go_quiet (fail)
              all_goals go_wp2
              all_goals go_ret
              all_goals exact ⟨rfl, below_drewN HB2.out _⟩
            · have HNX : Hid (adjS l (k + 1)) := Lib.hid (adj_on HA.out (by have := HSX.out; unfold sp0 at this; rw [this]; exact hr) (fun _ => by have q1 := HSX.out; have q2 := HPX.out; unfold sp0 at q1 q2; rw [q1, q2]; unfold ltS; dsimp only; omega))
              have h1f : (pt == st) = false := by simpa using h1
              have h2f : decide (st < pt) = false := decide_eq_false h2
              have H1 := Lib.hid h1
              clear hr hk h2 h1
              go_wp2_with (first
                | (go_at_call 12
                   (with_reducible refine (CR.out _).mono ?_)
                   rintro e w2 ⟨rfl, hb2⟩
                   have v0 := (hb2.cell (p := ⟨b0, off + k * 3, none⟩) hbs).trans c0
                   have v1 := (hb2.cell (p := ⟨b0, off + k * 3 + 1, none⟩) hbs).trans c1
                   have v2 := (hb2.cell (p := ⟨b0, off + k * 3 + 2, none⟩) hbs).trans c2
                   have u0 := (hb2.cell (p := ⟨b0, off + k1 * 3, none⟩) hbs).trans d0
                   have u1 := (hb2.cell (p := ⟨b0, off + k1 * 3 + 1, none⟩) hbs).trans d1
                   have u2 := (hb2.cell (p := ⟨b0, off + k1 * 3 + 2, none⟩) hbs).trans d2
                   have HB2 := Lib.hid (HR.out.trans (hb2.mono HR.out.size))
                   clear hb2))
              all_goals go_quiet (fail)
              all_goals go_wp2
              all_goals exact ⟨⟨k + 1, by omega, by go_num, HNX, Lib.hid (below_drewN HB2.out _)⟩, by simp [intOf]; omega⟩
      · have CR : Hid (∀ X, Calls Try.prog 12 #[.agg #[.int .i64 st, .int .i64 sf, .int .i64 su]] X fun e w' => e = .returned (.bool false) ∧ Below X.heap.size X w') := Lib.hid fun X => rright12 (st, sf, su) false X (by simp [hr])
        obtain rfl : b = false := Bool.eq_false_iff.2 fun h => by
          have q := ((HB.out.1 h) k hlt).1
          have q1 := HSX.out
          unfold sp0 at q1
          rw [q1] at q
          exact hr q
        clear hr
        go_wp2_with (first
          | (go_at_call 12
             (with_reducible refine (CR.out _).mono ?_)
             rintro e w2 ⟨rfl, hb2⟩
             have v0 := (hb2.cell (p := ⟨b0, off + k * 3, none⟩) hbs).trans c0
             have v1 := (hb2.cell (p := ⟨b0, off + k * 3 + 1, none⟩) hbs).trans c1
             have v2 := (hb2.cell (p := ⟨b0, off + k * 3 + 2, none⟩) hbs).trans c2
             have HB2 := Lib.hid (HR.out.trans (hb2.mono HR.out.size))
             clear hb2))
        all_goals go_ret
        all_goals exact ⟨rfl, HB2.out⟩
    · have hge : ¬ (k : Int) < (n : Int) := by omega
      obtain rfl : k = n := by omega
      obtain rfl : b = true := HB.out.2 HA.out
      go_wp2
      go_ret
      exact ⟨rfl, HR.out⟩

end Go.Proofs.Ytlnmdepaobocnaa

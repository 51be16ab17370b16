/- The program's lists of spans: Canon. No statement is proved here. -/
import Derived.Test.YtlnmdepaobocnaaSpan2
import Derived.Test.YtlnmdepaobocnaaSpan3
import Derived.Test.YtlnmdepaobocnaaSpanM
import Derived.Deep.RegionHeld3
namespace Go.Proofs.Ytlnmdepaobocnaa
open Go.ChangeShapes Go.WideShapes Go.ChangeAt Go.RowKit
set_option linter.unusedVariables false
set_option linter.unusedSimpArgs false

theorem adj_next {l : List Sp} {k : Nat} (h : adjS l k) (hr : rightS (l.getD k (0, 0, 0))) (ha : 0 < k → ltS (l.getD (k - 1) (0, 0, 0)) (l.getD k (0, 0, 0))) : adjS l (k + 1) := fun i hi => by
  rcases Nat.lt_or_eq_of_le (Nat.le_of_lt_succ hi) with h1 | rfl
  · exact h i h1
  · exact ⟨hr, ha⟩

set_option maxRecDepth 100000 in
set_option maxHeartbeats 4000000 in
theorem pcanon_any (A : Option Addr) (n c : Nat) (l : List Sp) (b : Bool) (w : World) (hl : SL w A n l) (hb : b = true ↔ adjS l n) (hn : n ≤ 100000) :
    Calls Try.prog 13 #[.slice A n c] w fun e w' => e = .returned (.bool b) ∧ Below w.heap.size w w' := by
  have HL := Lib.hid hl
  have HN := Lib.hid hl.len
  have HB := Lib.hid hb
  clear hl hb
  go_enter Try.func13, Try.ntmps13
  go_wp2
  go_loopw [7] (fun i wr => ∃ k : Nat, k ≤ n ∧ i = .int .i64 (k : Int) ∧ Hid (adjS l k) ∧ Hid (Below w.heap.size w wr)) (fun i _ => n - (intOf i).toNat)
  case atStart => exact ⟨0, by omega, rfl, Lib.hid (fun i hi => absurd hi (by omega)), Lib.hid (Below.refl _ _)⟩
  case round =>
    obtain ⟨k, hkn, rfl, HA, HR⟩ := hrel
    by_cases hlt : k < n
    · have hlt' : (k : Int) < (n : Int) := by omega
      have hk0 : (0 : Int) ≤ (k : Int) := by omega
      obtain ⟨b0, off, rfl, hbs, c0, c1, c2⟩ := (HL.out.below HR.out).at_ k hlt
      obtain ⟨s, hs⟩ : ∃ s, l.getD k sp0 = s := ⟨_, rfl⟩
      rw [hs] at c0 c1 c2
      have HSX := Lib.hid hs
      obtain ⟨st, sf, su⟩ := s
      dsimp only at c0 c1 c2
      clear hs
      by_cases hr : rightS (st, sf, su)
      · have CR : Hid (∀ X, Calls Try.prog 11 #[.agg #[.int .i64 st, .int .i64 sf, .int .i64 su]] X fun e w' => e = .returned (.bool true) ∧ Below X.heap.size X w') := Lib.hid fun X => pright12 (st, sf, su) true X (by simp [hr])
        by_cases hk : k = 0
        · have HNX : Hid (adjS l (k + 1)) := Lib.hid (adj_next HA.out (by have := HSX.out; unfold sp0 at this; rw [this]; exact hr) (fun h => absurd h (by omega)))
          have hkz : decide (0 < k) = false := decide_eq_false (by omega)
          have hkzi : decide ((0 : Int) < (k : Int)) = false := decide_eq_false (by omega)
          clear hr hk
          go_wp2
          obtain ⟨V, hV⟩ : ∃ V, wr.alloc (.cells #[.int .i64 st, .int .i64 sf, .int .i64 su] 23) = V := ⟨_, rfl⟩
          have hbV : Below wr.heap.size wr V := by rw [← hV]; exact (Below.refl _ _).alloc (Nat.le_refl _) _
          have hwV : WholeV V wr.heap.size 23 [.int .i64 st, .int .i64 sf, .int .i64 su] := by rw [← hV]; exact heap_alloc_new wr _
          have a0 : V.cell? ⟨wr.heap.size, 0, none⟩ = some (.int .i64 st) := hwV.cell 0
          have a1 : V.cell? ⟨wr.heap.size, 1, none⟩ = some (.int .i64 sf) := hwV.cell 1
          have a2 : V.cell? ⟨wr.heap.size, 2, none⟩ = some (.int .i64 su) := hwV.cell 2
          have HRV := Lib.hid (HR.out.trans (hbV.mono HR.out.size))
          rw [hV]
          clear hV hbV hwV
          first
            | (go_region_with (first
                 | (go_at_call 11
                    (with_reducible refine (CR.out _).mono ?_)
                    rintro e w2 ⟨rfl, hb2⟩
                    have hb2' := below_from (d := 1) hb2
                    have HB2 := Lib.hid (HRV.out.trans (hb2'.mono HRV.out.size))
                    have HS2 := Lib.hid hb2'.size
                    clear hb2 hb2')))
            | (fail "no")
          all_goals go_wp2
          all_goals exact ⟨⟨k + 1, by omega, by go_num, HNX, HB2⟩, by simp [intOf]; omega⟩
        · obtain ⟨b0', off', hA', _, d0, d1, d2⟩ := (HL.out.below HR.out).at_ (k - 1) (by omega)
          injection hA' with hA'
          injection hA' with r1 r2 r3
          subst r1 r2
          have hkz : 0 < k := by omega
          have hkzp : (0 : Int) < (k : Int) := by omega
          have hkm : (k : Int) - 1 = ((k - 1 : Nat) : Int) := by omega
          have hkn1 : ((k - 1 : Nat) : Int) < (n : Int) := by omega
          have hkn2 : (0 : Int) ≤ ((k - 1 : Nat) : Int) := by omega
          obtain ⟨p, hp⟩ : ∃ p, l.getD (k - 1) sp0 = p := ⟨_, rfl⟩
          rw [hp] at d0 d1 d2
          have HPX := Lib.hid hp
          obtain ⟨pt, pf, pu⟩ := p
          dsimp only at d0 d1 d2
          obtain ⟨k1, hk1⟩ : ∃ k1, k - 1 = k1 := ⟨_, rfl⟩
          rw [hk1] at d0 d1 d2 hkm hkn1 hkn2
          have HK1 := Lib.hid hk1
          have hkw : IntKind.i64.wrap (k1 : Int) = (k1 : Int) := IntWalk.i64_in _ (by omega)
          clear hp r3
          by_cases ha : ltS (pt, pf, pu) (st, sf, su)
          · have CA : Hid (∀ X, Calls Try.prog 34 #[.agg #[.int .i64 pt, .int .i64 pf, .int .i64 pu], .agg #[.int .i64 st, .int .i64 sf, .int .i64 su]] X fun e w' => e = .returned (.bool true) ∧ Below X.heap.size X w') := Lib.hid fun X => ahead_any (pt, pf, pu) (st, sf, su) true X (by simp [ha])
            have HNX : Hid (adjS l (k + 1)) := Lib.hid (adj_next HA.out (by have := HSX.out; unfold sp0 at this; rw [this]; exact hr) (fun _ => by have q1 := HSX.out; have q2 := HPX.out; unfold sp0 at q1 q2; rw [q1, q2]; exact ha))
            clear hr hk hk1 ha
            go_wp2
            obtain ⟨V, hV⟩ : ∃ V, wr.alloc (.cells #[.int .i64 st, .int .i64 sf, .int .i64 su] 23) = V := ⟨_, rfl⟩
            have hbV : Below wr.heap.size wr V := by rw [← hV]; exact (Below.refl _ _).alloc (Nat.le_refl _) _
            have hwV : WholeV V wr.heap.size 23 [.int .i64 st, .int .i64 sf, .int .i64 su] := by rw [← hV]; exact heap_alloc_new wr _
            have HRV := Lib.hid (HR.out.trans (hbV.mono HR.out.size))
            have KS : Hid (∀ X, Below V.heap.size V X → X.cell? ⟨wr.heap.size, 0, none⟩ = some (.int .i64 st) ∧ X.cell? ⟨wr.heap.size, 1, none⟩ = some (.int .i64 sf) ∧ X.cell? ⟨wr.heap.size, 2, none⟩ = some (.int .i64 su) ∧ X.cell? ⟨b0, off + k1 * 3, none⟩ = some (.int .i64 pt) ∧ X.cell? ⟨b0, off + k1 * 3 + 1, none⟩ = some (.int .i64 pf) ∧ X.cell? ⟨b0, off + k1 * 3 + 2, none⟩ = some (.int .i64 pu) ∧ Below V.heap.size V X) := Lib.hid fun X hX => by
              have hx := hwV.below hX hwV.lt
              exact ⟨hx.cell 0, hx.cell 1, hx.cell 2, (hX.cell (p := ⟨b0, off + k1 * 3, none⟩) (Nat.lt_of_lt_of_le hbs hbV.size)).trans ((hbV.cell (p := ⟨b0, off + k1 * 3, none⟩) hbs).trans d0), (hX.cell (p := ⟨b0, off + k1 * 3 + 1, none⟩) (Nat.lt_of_lt_of_le hbs hbV.size)).trans ((hbV.cell (p := ⟨b0, off + k1 * 3 + 1, none⟩) hbs).trans d1), (hX.cell (p := ⟨b0, off + k1 * 3 + 2, none⟩) (Nat.lt_of_lt_of_le hbs hbV.size)).trans ((hbV.cell (p := ⟨b0, off + k1 * 3 + 2, none⟩) hbs).trans d2), hX⟩
            have KT : Hid (∀ X X', (X.cell? ⟨wr.heap.size, 0, none⟩ = some (.int .i64 st) ∧ X.cell? ⟨wr.heap.size, 1, none⟩ = some (.int .i64 sf) ∧ X.cell? ⟨wr.heap.size, 2, none⟩ = some (.int .i64 su) ∧ X.cell? ⟨b0, off + k1 * 3, none⟩ = some (.int .i64 pt) ∧ X.cell? ⟨b0, off + k1 * 3 + 1, none⟩ = some (.int .i64 pf) ∧ X.cell? ⟨b0, off + k1 * 3 + 2, none⟩ = some (.int .i64 pu) ∧ Below V.heap.size V X) → Below X.heap.size X X' → (X'.cell? ⟨wr.heap.size, 0, none⟩ = some (.int .i64 st) ∧ X'.cell? ⟨wr.heap.size, 1, none⟩ = some (.int .i64 sf) ∧ X'.cell? ⟨wr.heap.size, 2, none⟩ = some (.int .i64 su) ∧ X'.cell? ⟨b0, off + k1 * 3, none⟩ = some (.int .i64 pt) ∧ X'.cell? ⟨b0, off + k1 * 3 + 1, none⟩ = some (.int .i64 pf) ∧ X'.cell? ⟨b0, off + k1 * 3 + 2, none⟩ = some (.int .i64 pu) ∧ Below V.heap.size V X')) := Lib.hid fun X X' hs hb => KS.out _ (hs.2.2.2.2.2.2.trans (hb.mono hs.2.2.2.2.2.2.size))
            have KB : Hid (∀ X, (X.cell? ⟨wr.heap.size, 0, none⟩ = some (.int .i64 st) ∧ X.cell? ⟨wr.heap.size, 1, none⟩ = some (.int .i64 sf) ∧ X.cell? ⟨wr.heap.size, 2, none⟩ = some (.int .i64 su) ∧ X.cell? ⟨b0, off + k1 * 3, none⟩ = some (.int .i64 pt) ∧ X.cell? ⟨b0, off + k1 * 3 + 1, none⟩ = some (.int .i64 pf) ∧ X.cell? ⟨b0, off + k1 * 3 + 2, none⟩ = some (.int .i64 pu) ∧ Below V.heap.size V X) → Below V.heap.size V X) := Lib.hid fun X hs => hs.2.2.2.2.2.2
            rw [hV]
            clear hV hbV hwV
            go_region_held3 (fun X => X.cell? ⟨wr.heap.size, 0, none⟩ = some (.int .i64 st) ∧ X.cell? ⟨wr.heap.size, 1, none⟩ = some (.int .i64 sf) ∧ X.cell? ⟨wr.heap.size, 2, none⟩ = some (.int .i64 su) ∧ X.cell? ⟨b0, off + k1 * 3, none⟩ = some (.int .i64 pt) ∧ X.cell? ⟨b0, off + k1 * 3 + 1, none⟩ = some (.int .i64 pf) ∧ X.cell? ⟨b0, off + k1 * 3 + 2, none⟩ = some (.int .i64 pu) ∧ Below V.heap.size V X)
              (first
                | assumption
                | exact KS.out _ (Below.refl _ _).drew
                | exact KT.out _ _ (by assumption) hb3
                | exact KT.out _ _ (by assumption) hb2)
              (first
                | (go_at_call 11
                   (with_reducible refine (CR.out _).mono ?_)
                   rintro e w2 ⟨rfl, hb2⟩)
                | (go_at_call 34
                   (with_reducible refine (CA.out _).mono ?_)
                   rintro e w3 ⟨rfl, hb3⟩))
            all_goals go_wp2
            all_goals exact ⟨⟨k + 1, by omega, by go_num, HNX, Lib.hid (HRV.out.trans ((KB.out _ (by assumption)).mono HRV.out.size))⟩, by simp [intOf]; omega⟩
          · have CA : Hid (∀ X, Calls Try.prog 34 #[.agg #[.int .i64 pt, .int .i64 pf, .int .i64 pu], .agg #[.int .i64 st, .int .i64 sf, .int .i64 su]] X fun e w' => e = .returned (.bool false) ∧ Below X.heap.size X w') := Lib.hid fun X => ahead_any (pt, pf, pu) (st, sf, su) false X (by simp [ha])
            obtain rfl : b = false := Bool.eq_false_iff.2 fun h => by
              have q := ((HB.out.1 h) k hlt).2 (by omega)
              have q1 := HSX.out
              have q2 := HPX.out
              unfold sp0 at q1 q2
              rw [q1, q2] at q
              exact ha q
            clear hr hk hk1 ha
            go_wp2
            obtain ⟨V, hV⟩ : ∃ V, wr.alloc (.cells #[.int .i64 st, .int .i64 sf, .int .i64 su] 23) = V := ⟨_, rfl⟩
            have hbV : Below wr.heap.size wr V := by rw [← hV]; exact (Below.refl _ _).alloc (Nat.le_refl _) _
            have hwV : WholeV V wr.heap.size 23 [.int .i64 st, .int .i64 sf, .int .i64 su] := by rw [← hV]; exact heap_alloc_new wr _
            have HRV := Lib.hid (HR.out.trans (hbV.mono HR.out.size))
            have KS : Hid (∀ X, Below V.heap.size V X → X.cell? ⟨wr.heap.size, 0, none⟩ = some (.int .i64 st) ∧ X.cell? ⟨wr.heap.size, 1, none⟩ = some (.int .i64 sf) ∧ X.cell? ⟨wr.heap.size, 2, none⟩ = some (.int .i64 su) ∧ X.cell? ⟨b0, off + k1 * 3, none⟩ = some (.int .i64 pt) ∧ X.cell? ⟨b0, off + k1 * 3 + 1, none⟩ = some (.int .i64 pf) ∧ X.cell? ⟨b0, off + k1 * 3 + 2, none⟩ = some (.int .i64 pu) ∧ Below V.heap.size V X) := Lib.hid fun X hX => by
              have hx := hwV.below hX hwV.lt
              exact ⟨hx.cell 0, hx.cell 1, hx.cell 2, (hX.cell (p := ⟨b0, off + k1 * 3, none⟩) (Nat.lt_of_lt_of_le hbs hbV.size)).trans ((hbV.cell (p := ⟨b0, off + k1 * 3, none⟩) hbs).trans d0), (hX.cell (p := ⟨b0, off + k1 * 3 + 1, none⟩) (Nat.lt_of_lt_of_le hbs hbV.size)).trans ((hbV.cell (p := ⟨b0, off + k1 * 3 + 1, none⟩) hbs).trans d1), (hX.cell (p := ⟨b0, off + k1 * 3 + 2, none⟩) (Nat.lt_of_lt_of_le hbs hbV.size)).trans ((hbV.cell (p := ⟨b0, off + k1 * 3 + 2, none⟩) hbs).trans d2), hX⟩
            have KT : Hid (∀ X X', (X.cell? ⟨wr.heap.size, 0, none⟩ = some (.int .i64 st) ∧ X.cell? ⟨wr.heap.size, 1, none⟩ = some (.int .i64 sf) ∧ X.cell? ⟨wr.heap.size, 2, none⟩ = some (.int .i64 su) ∧ X.cell? ⟨b0, off + k1 * 3, none⟩ = some (.int .i64 pt) ∧ X.cell? ⟨b0, off + k1 * 3 + 1, none⟩ = some (.int .i64 pf) ∧ X.cell? ⟨b0, off + k1 * 3 + 2, none⟩ = some (.int .i64 pu) ∧ Below V.heap.size V X) → Below X.heap.size X X' → (X'.cell? ⟨wr.heap.size, 0, none⟩ = some (.int .i64 st) ∧ X'.cell? ⟨wr.heap.size, 1, none⟩ = some (.int .i64 sf) ∧ X'.cell? ⟨wr.heap.size, 2, none⟩ = some (.int .i64 su) ∧ X'.cell? ⟨b0, off + k1 * 3, none⟩ = some (.int .i64 pt) ∧ X'.cell? ⟨b0, off + k1 * 3 + 1, none⟩ = some (.int .i64 pf) ∧ X'.cell? ⟨b0, off + k1 * 3 + 2, none⟩ = some (.int .i64 pu) ∧ Below V.heap.size V X')) := Lib.hid fun X X' hs hb => KS.out _ (hs.2.2.2.2.2.2.trans (hb.mono hs.2.2.2.2.2.2.size))
            have KB : Hid (∀ X, (X.cell? ⟨wr.heap.size, 0, none⟩ = some (.int .i64 st) ∧ X.cell? ⟨wr.heap.size, 1, none⟩ = some (.int .i64 sf) ∧ X.cell? ⟨wr.heap.size, 2, none⟩ = some (.int .i64 su) ∧ X.cell? ⟨b0, off + k1 * 3, none⟩ = some (.int .i64 pt) ∧ X.cell? ⟨b0, off + k1 * 3 + 1, none⟩ = some (.int .i64 pf) ∧ X.cell? ⟨b0, off + k1 * 3 + 2, none⟩ = some (.int .i64 pu) ∧ Below V.heap.size V X) → Below V.heap.size V X) := Lib.hid fun X hs => hs.2.2.2.2.2.2
            rw [hV]
            clear hV hbV hwV
            go_region_held3 (fun X => X.cell? ⟨wr.heap.size, 0, none⟩ = some (.int .i64 st) ∧ X.cell? ⟨wr.heap.size, 1, none⟩ = some (.int .i64 sf) ∧ X.cell? ⟨wr.heap.size, 2, none⟩ = some (.int .i64 su) ∧ X.cell? ⟨b0, off + k1 * 3, none⟩ = some (.int .i64 pt) ∧ X.cell? ⟨b0, off + k1 * 3 + 1, none⟩ = some (.int .i64 pf) ∧ X.cell? ⟨b0, off + k1 * 3 + 2, none⟩ = some (.int .i64 pu) ∧ Below V.heap.size V X)
              (first
                | assumption
                | exact KS.out _ (Below.refl _ _).drew
                | exact KT.out _ _ (by assumption) hb3
                | exact KT.out _ _ (by assumption) hb2)
              (first
                | (go_at_call 11
                   (with_reducible refine (CR.out _).mono ?_)
                   rintro e w2 ⟨rfl, hb2⟩)
                | (go_at_call 34
                   (with_reducible refine (CA.out _).mono ?_)
                   rintro e w3 ⟨rfl, hb3⟩))
            all_goals go_wp2
            all_goals go_ret
            all_goals exact ⟨rfl, HRV.out.trans ((KB.out _ (by assumption)).mono HRV.out.size)⟩
      · have CR : Hid (∀ X, Calls Try.prog 11 #[.agg #[.int .i64 st, .int .i64 sf, .int .i64 su]] X fun e w' => e = .returned (.bool false) ∧ Below X.heap.size X w') := Lib.hid fun X => pright12 (st, sf, su) false X (by simp [hr])
        obtain rfl : b = false := Bool.eq_false_iff.2 fun h => by
          have q := ((HB.out.1 h) k hlt).1
          have q1 := HSX.out
          unfold sp0 at q1
          rw [q1] at q
          exact hr q
        clear hr
        go_wp2
        obtain ⟨V, hV⟩ : ∃ V, wr.alloc (.cells #[.int .i64 st, .int .i64 sf, .int .i64 su] 23) = V := ⟨_, rfl⟩
        have hbV : Below wr.heap.size wr V := by rw [← hV]; exact (Below.refl _ _).alloc (Nat.le_refl _) _
        have hwV : WholeV V wr.heap.size 23 [.int .i64 st, .int .i64 sf, .int .i64 su] := by rw [← hV]; exact heap_alloc_new wr _
        have a0 : V.cell? ⟨wr.heap.size, 0, none⟩ = some (.int .i64 st) := hwV.cell 0
        have a1 : V.cell? ⟨wr.heap.size, 1, none⟩ = some (.int .i64 sf) := hwV.cell 1
        have a2 : V.cell? ⟨wr.heap.size, 2, none⟩ = some (.int .i64 su) := hwV.cell 2
        have HRV := Lib.hid (HR.out.trans (hbV.mono HR.out.size))
        rw [hV]
        clear hV hbV hwV
        have hund : undef = Value.tuple #[] := rfl
        first
          | (go_region_with (first
               | (go_at_call 11
                  (with_reducible refine (CR.out _).mono ?_)
                  rintro e w2 ⟨rfl, hb2⟩
                  have hb2' := below_from (d := 1) hb2
                  have HB2 := Lib.hid (HRV.out.trans (hb2'.mono HRV.out.size))
                  have HS2 := Lib.hid hb2'.size
                  clear hb2 hb2')))
          | (fail "no")
        all_goals go_wp2
        all_goals go_ret
        all_goals exact ⟨rfl, HB2.out⟩
    · have hge : ¬ (k : Int) < (n : Int) := by omega
      obtain rfl : k = n := by omega
      obtain rfl : b = true := HB.out.2 HA.out
      go_wp2
      go_ret
      exact ⟨rfl, HR.out⟩

end Go.Proofs.Ytlnmdepaobocnaa

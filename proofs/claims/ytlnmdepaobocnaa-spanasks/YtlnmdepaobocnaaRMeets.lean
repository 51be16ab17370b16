/- The document's lists of spans: Meets. No statement is proved here. -/
import Derived.Test.YtlnmdepaobocnaaSpan2
namespace Go.Proofs.Ytlnmdepaobocnaa
open Go.ChangeShapes Go.WideShapes Go.ChangeAt Go.RowKit
set_option linter.unusedVariables false
set_option linter.unusedSimpArgs false

set_option maxRecDepth 100000 in
set_option maxHeartbeats 8000000 in
theorem rmeets_any (A : Option Addr) (n c : Nat) (l : List Sp) (t f u : Int) (b : Bool) (w : World) (hl : SL w A n l) (hb : b = true ↔ meetsS l (t, f, u)) (hn : n ≤ 1000000) :
    Calls Try.prog 31 #[.slice A n c, .agg #[.int .i64 t, .int .i64 f, .int .i64 u]] w fun e w' => e = .returned (.bool b) ∧ Below w.heap.size w w' := by
  obtain ⟨W, hW⟩ : ∃ W, w.alloc (.cells #[.int .i64 t, .int .i64 f, .int .i64 u] 23) = W := ⟨_, rfl⟩
  have hk : Below w.heap.size w W := by rw [← hW]; exact (Below.refl _ _).alloc (Nat.le_refl _) _
  have h0 : WholeV W w.heap.size 23 [.int .i64 t, .int .i64 f, .int .i64 u] := by rw [← hW]; exact heap_alloc_new w _
  have x0 : W.cell? ⟨w.heap.size, 0, none⟩ = some (.int .i64 t) := h0.cell 0
  have x1 : W.cell? ⟨w.heap.size, 1, none⟩ = some (.int .i64 f) := h0.cell 1
  have x2 : W.cell? ⟨w.heap.size, 2, none⟩ = some (.int .i64 u) := h0.cell 2
  have HK := Lib.hid hk
  have HL := Lib.hid (hl.below hk)
  have HB := Lib.hid hb
  have HN := Lib.hid hl.len
  clear hk h0 hl hb
  go_enter Try.func31, Try.ntmps31
  go_wp2
  go_loopw [5] (fun i wr => ∃ k d : Nat, k ≤ n ∧ i = .int .i64 (k : Int) ∧ Hid (wr = W.drewN d) ∧ Hid (¬ meetsS (l.take k) (t, f, u))) (fun i _ => n - (intOf i).toNat)
  case atStart => exact ⟨0, 0, by omega, rfl, Lib.hid rfl, Lib.hid (fun ⟨x, hx, _⟩ => by cases hx)⟩
  case round =>
    obtain ⟨k, d, hkn, rfl, HW, HI⟩ := hrel
    obtain rfl := HW.out
    by_cases hlt : k < n
    · have hlt' : (k : Int) < (n : Int) := by omega
      have hk0 : (0 : Int) ≤ (k : Int) := by omega
      obtain ⟨b0, off, rfl, hbs, c0, c1, c2⟩ := HL.out.at_ k hlt
      have hkl : k < l.length := by rw [HN.out]; exact hlt
      have HT := Lib.hid (getD_take_succ l k hkl)
      have HM := Lib.hid (getD_mem l k hkl)
      obtain ⟨s, hs⟩ : ∃ s, l.getD k sp0 = s := ⟨_, rfl⟩
      rw [hs] at HT HM c0 c1 c2
      obtain ⟨st, sf, su⟩ := s
      dsimp only at c0 c1 c2
      clear hs
      have HNX : Hid (¬ (st = t ∧ sf < u ∧ f < su) → ¬ meetsS (l.take (k + 1)) (t, f, u)) := fun h h2 => by
        rw [HT.out] at h2
        obtain ⟨x, hx, hq⟩ := h2
        rcases List.mem_append.1 hx with hx | hx
        · exact HI.out ⟨x, hx, hq⟩
        · obtain rfl := List.mem_singleton.1 hx
          exact h hq
      by_cases h1 : st = t
      · subst h1
        by_cases h2 : sf < u
        · by_cases h3 : f < su
          · obtain rfl : b = true := HB.out.2 ⟨_, HM.out, rfl, h2, h3⟩
            go_wp2
            go_quiet (fail)
            go_wp2
            go_ret
            exact ⟨rfl, below_drewN (below_drewN HK.out _) _⟩
          · have H3 := Lib.hid h3
            have g3 : decide (f < su) = false := decide_eq_false h3
            clear h3
            go_wp2
            go_quiet (fail)
            go_wp2
            go_roundw
            case rel => exact ⟨k + 1, _, by omega, rfl, Lib.hid rfl, Lib.hid (HNX.out fun h => by have q1 := H3.out; have q2 := h.2.2; omega)⟩
            case measure => simp [intOf]; omega
        · have H2 := Lib.hid h2
          have g2 : decide (sf < u) = false := decide_eq_false h2
          clear h2
          go_wp2
          go_quiet (fail)
          go_wp2
          go_roundw
          case rel => exact ⟨k + 1, _, by omega, rfl, Lib.hid rfl, Lib.hid (HNX.out fun h => by have q1 := H2.out; have q2 := h.2.1; omega)⟩
          case measure => simp [intOf]; omega
      · go_wp2
        go_quiet (fail)
        go_wp2
        go_roundw
        case rel => exact ⟨k + 1, _, by omega, rfl, Lib.hid rfl, Lib.hid (HNX.out fun h => h1 h.1)⟩
        case measure => simp [intOf]; omega
    · have hge : ¬ (k : Int) < (n : Int) := by omega
      have hI := HI.out
      rw [List.take_of_length_le (by rw [HN.out]; omega)] at hI
      obtain rfl : b = false := Bool.eq_false_iff.2 fun h => hI (HB.out.1 h)
      clear hI
      go_wp2
      go_ret
      exact ⟨rfl, below_drewN HK.out _⟩

end Go.Proofs.Ytlnmdepaobocnaa

/- The document's spans: Right; lists taken to a place. No statement is proved here. -/
import Derived.Test.YtlnmdepaobocnaaSpan1
namespace Go.Proofs.Ytlnmdepaobocnaa
open Go.ChangeShapes Go.WideShapes Go.ChangeAt Go.RowKit
set_option linter.unusedVariables false
set_option linter.unusedSimpArgs false

theorem getD_take_succ (l : List Sp) (k : Nat) (h : k < l.length) : l.take (k + 1) = l.take k ++ [l.getD k sp0] := by
  rw [List.take_succ_eq_append_getElem h]
  simp [List.getD_eq_getElem?_getD, h]
theorem getD_mem (l : List Sp) (k : Nat) (h : k < l.length) : l.getD k sp0 ∈ l := by
  rw [List.getD_eq_getElem?_getD, List.getElem?_eq_getElem h]
  exact List.getElem_mem h

theorem rright12 (s : Sp) (b : Bool) (w : World) (hb : b = true ↔ rightS s) :
    Calls Try.prog 12 #[.agg #[.int .i64 s.1, .int .i64 s.2.1, .int .i64 s.2.2]] w fun e w' => e = .returned (.bool b) ∧ Below w.heap.size w w' := by
  obtain ⟨t, f, u⟩ := s
  unfold rightS at hb
  dsimp only at hb ⊢
  have hk : Below w.heap.size w (w.alloc (.cells #[.int .i64 t, .int .i64 f, .int .i64 u] 23)) := (Below.refl _ _).alloc (Nat.le_refl _) _
  have HK := Lib.hid hk
  have HB := Lib.hid hb
  clear hk hb
  by_cases h1 : 0 ≤ t
  · by_cases h2 : t ≤ 3
    · by_cases h3 : 0 ≤ f
      · by_cases h4 : u ≤ 65536
        · by_cases h5 : f < u
          · obtain rfl : b = true := HB.out.2 ⟨h1, h2, h3, h4, h5⟩
            go_enter Try.func12, Try.ntmps12
            go_wp2
            go_ret
            exact ⟨rfl, HK.out⟩
          · obtain rfl : b = false := Bool.eq_false_iff.2 fun h => h5 (HB.out.1 h).2.2.2.2
            go_enter Try.func12, Try.ntmps12
            go_wp2
            go_ret
            exact ⟨rfl, HK.out⟩
        · obtain rfl : b = false := Bool.eq_false_iff.2 fun h => h4 (HB.out.1 h).2.2.2.1
          go_enter Try.func12, Try.ntmps12
          go_wp2
          go_ret
          exact ⟨rfl, HK.out⟩
      · obtain rfl : b = false := Bool.eq_false_iff.2 fun h => h3 (HB.out.1 h).2.2.1
        go_enter Try.func12, Try.ntmps12
        go_wp2
        go_ret
        exact ⟨rfl, HK.out⟩
    · obtain rfl : b = false := Bool.eq_false_iff.2 fun h => h2 (HB.out.1 h).2.1
      go_enter Try.func12, Try.ntmps12
      go_wp2
      go_ret
      exact ⟨rfl, HK.out⟩
  · obtain rfl : b = false := Bool.eq_false_iff.2 fun h => h1 (HB.out.1 h).1
    go_enter Try.func12, Try.ntmps12
    go_wp2
    go_ret
    exact ⟨rfl, HK.out⟩

end Go.Proofs.Ytlnmdepaobocnaa

/- The chapter's example of stage 7. -/
import Derived.Test.YtoljpdamalcjeaaIden8
import Derived.Test.YtoljpdamalcjeaaIden9
namespace Go.Proofs.Ytoljpdamalcjeaa
open Go.ChangeShapes Go.WideShapes Go.ChangeAt Go.RowKit
set_option linter.unusedVariables false
set_option linter.unusedSimpArgs false

def os3 : List Ob := [(0, ⟨#[97]⟩), (1, ⟨#[98]⟩), (2, ⟨#[99]⟩)]
theorem os3_answer (b : Nat) (W : World) (hl : OL W W.heap.size (some ⟨b, 0, none⟩) 3 os3) :
    Calls Try.prog 44 #[.slice (some ⟨b, 0, none⟩) 3 3, .int .i64 1, .int .i64 1] W fun e w' => ∃ B d, e = .returned (.tuple #[.agg #[.int .i64 43, .int .i64 0, .slice none 0 0, .slice none 0 0, .int .i64 0, .int .i64 0, .int .u16 0, .int .u16 0, .int .u16 0, .int .i64 1, .int .i64 129, .bool false, .int .i64 0, .slice B 2 d], .int .i64 0]) ∧ OL w' w'.heap.size B 2 [(1, ⟨#[98]⟩), (2, ⟨#[99]⟩)] ∧ Below W.heap.size W w' := by
  have h := ianswer_many (some ⟨b, 0, none⟩) 3 3 os3 1 1 (some ⟨b, 0 + 1 * 2, none⟩) (3 - 1) (3 - 1) (os3.drop 1) W hl (by omega) (by omega) (by omega) (by omega)
    (by intro o ho; simp [os3] at ho; rcases ho with rfl | rfl <;> simp [ByteArray.size]) (by omega) (by omega)
    (fun W hW => by
      have hu : upN os3 (gOf 1) = 3 := by decide
      rw [hu]
      exact ifrom_yes b 0 3 3 os3 1 1 W hW (by omega) (by omega) (by omega) (by intro k hk; have h0 : k = 0 := (by omega); subst h0; decide) (by decide))
    (fun W hW => hW.drop 1 (by omega))
  refine h.mono ?_
  rintro e w' ⟨B, d, he, ho, hb⟩
  have h1 : levelOf os3 = 129 := by decide
  have h2 : roomOf (os3.drop 1) = 2 := by decide
  have h3 : moreOf (os3.drop 1) = false := by decide
  have h4 : nextOf (os3.drop 1) = 0 := by decide
  rw [h1, h2, h3, h4] at he
  rw [h2] at ho
  exact ⟨B, d, he, ol_of_own ho, hb⟩

set_option maxRecDepth 100000 in
theorem awake7_any (w : World) : Calls Try.prog 42 #[] w fun e w' => e = .returned (.bool true) ∧ Below w.heap.size w w' := by
  have C := Lib.hid (os3_answer w.heap.size _ (ol_of_own (own2_new w os3 98 3 rfl (by omega))))
  go_enter Try.func42, Try.ntmps42
  go_wp2_with (go_at_call 44
               refine C.out.mono ?_
               rintro e w1 ⟨B, d, rfl, hol, hb⟩
               obtain ⟨b1, off, rfl, hb1, hc1, hc2⟩ := hol.at_ 0 (by omega)
               have hd1 : w1.cell? ⟨b1, off, none⟩ = some (.int .i64 1) := by simpa using hc1
               have hd2 : w1.cell? ⟨b1, off + 1, none⟩ = some (.string ⟨#[98]⟩) := by simpa using hc2
               clear hc1 hc2
               have HB := Lib.hid hb
               clear hb hol)
  go_ret
  exact ⟨rfl, (((Below.refl _ _).alloc (Nat.le_refl _) _).trans (HB.out.mono (by simp))).alloc (by have := HB.out.size; simp at this; omega) _⟩

end Go.Proofs.Ytoljpdamalcjeaa

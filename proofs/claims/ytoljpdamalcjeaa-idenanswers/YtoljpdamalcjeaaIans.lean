/- What both Answers tell, in the same words. -/
import Derived.Test.YtoljpdamalcjeaaRAns2
namespace Go.Proofs.Ytoljpdamalcjeaa
open Go.ChangeShapes Go.WideShapes Go.ChangeAt Go.RowKit
set_option linter.unusedVariables false
set_option linter.unusedSimpArgs false

theorem first_at (os : List Ob) (ob : Int) : (∀ k, k < os.length → (os.getD k ob0).1 ≠ ob) ∨ ∃ i, i < os.length ∧ (∀ k, k < i → (os.getD k ob0).1 ≠ ob) ∧ (os.getD i ob0).1 = ob := by
  induction os with
  | nil => exact .inl fun k hk => by simp at hk
  | cons o os ih =>
    by_cases ho : o.1 = ob
    · exact .inr ⟨0, by simp, fun k hk => by omega, ho⟩
    · rcases ih with h | ⟨i, hi, h, h2⟩
      · refine .inl fun k hk => ?_
        cases k with
        | zero => exact ho
        | succ k => exact h k (by simpa using hk)
      · refine .inr ⟨i + 1, by simpa using hi, fun k hk => ?_, h2⟩
        cases k with
        | zero => exact ho
        | succ k => exact h k (by omega)

/-- A reply of identification, or none, came back, its objects of the call's own. -/
def AnsTo (fn cd le nx : Int) (mo : Bool) (E : Int) (p : Nat) (ps : List Ob) (W : World) (e : Ending) (w' : World) : Prop :=
  ∃ (B : Option Addr) (d : Nat), e = .returned (.tuple #[.agg #[.int .i64 fn, .int .i64 0, .slice none 0 0, .slice none 0 0, .int .i64 0, .int .i64 0, .int .u16 0, .int .u16 0, .int .u16 0, .int .i64 cd, .int .i64 le, .bool mo, .int .i64 nx, .slice B p d], .int .i64 E]) ∧
    w'.ownsRow W.heap.size 98 2 (.slice B p d) p (obs ps) ∧ Below W.heap.size W w'

theorem ans_both (os : List Ob) (hg : goodL os) (co ob : Int) : ∃ (fn cd le nx : Int) (mo : Bool) (E : Int) (p : Nat) (ps : List Ob), p ≤ 43 ∧
    (E ≠ 0 ∨ (E = 0 ∧ fn = 43 ∧ (1 ≤ cd ∧ cd ≤ 4) ∧ (0 ≤ le ∧ le ≤ 255) ∧ (0 ≤ nx ∧ nx ≤ 255) ∧ fitP ps)) ∧
    (∀ A n c W, OL W W.heap.size A n os → n ≤ c → Calls Try.prog 44 #[.slice A n c, .int .i64 co, .int .i64 ob] W (AnsTo fn cd le nx mo E p ps W)) ∧
    ∀ A n c W, OL W W.heap.size A n os → n ≤ c → Calls Try.prog 45 #[.slice A n c, .int .i64 co, .int .i64 ob] W (AnsTo fn cd le nx mo E p ps W) := by
  have hlv := levelOf_bounds os
  have h43 := hg.l43
  by_cases hin : (1 ≤ co ∧ co ≤ 4) ∧ 0 ≤ ob ∧ ob ≤ 255
  · obtain ⟨hco, hob⟩ := hin
    by_cases h4 : co = 4
    · subst h4
      rcases first_at os ob with h | ⟨i, hi, h, h2⟩
      · refine ⟨0, 0, 0, 0, false, 2, 0, [], by omega, .inl (by decide), fun A n c W hl hc => ?_, fun A n c W hl hc => ?_⟩
        · have hlen := hl.len
          exact (ianswer_none A n c os ob W hl (by omega) hc hob (fun k hk => h k (by omega))).mono fun e w' ⟨h1, h2⟩ => ⟨none, 0, h1, own2_none _ _ _, h2⟩
        · have hlen := hl.len
          exact (ranswer_none A n c os ob W hl hg hob (fun k hk => h k (by omega))).mono fun e w' ⟨h1, h2⟩ => ⟨none, 0, h1, own2_none _ _ _, h2⟩
      · have hmem : os.getD i ob0 ∈ os := by rw [List.getD_eq_getElem?_getD, List.getElem?_eq_getElem hi]; exact List.getElem_mem _
        refine ⟨43, 4, levelOf os, 0, false, 0, 1, [os.getD i ob0], by omega, .inr ⟨rfl, rfl, by omega, by omega, by omega, ?_, ?_⟩, fun A n c W hl hc => ?_, fun A n c W hl hc => ?_⟩
        · intro o ho
          rw [List.mem_singleton.1 ho]
          exact hg.byte _ hmem
        · have := hg.short _ hmem
          simp [used]
          simp [List.getD_eq_getElem?_getD] at this
          omega
        · have hlen := hl.len
          exact (ianswer_one A n c os ob i W hl (by omega) hc hob (by omega) h h2).mono fun e w' ⟨B, h1, h2, h3⟩ => ⟨B, 1, h1, h2, h3⟩
        · have hlen := hl.len
          exact (ranswer_one A n c os ob i W hl hg hob (by omega) h h2).mono fun e w' ⟨B, h1, h2, h3⟩ => ⟨B, 1, h1, h2, h3⟩
    · have hco3 : 1 ≤ co ∧ co ≤ 3 := by omega
      obtain ⟨u, hu⟩ : ∃ u, upN os (gOf co) = u := ⟨_, rfl⟩
      have hu3 : 3 ≤ u := by have := hg.up3 (gOf co) (gOf_pos co hco3).1; omega
      have hul : u ≤ os.length := by have := upN_le os (gOf co); omega
      have htk : ∀ k, k < u → (os.take u).getD k ob0 = os.getD k ob0 := by
        intro k hk
        simp [List.getD_eq_getElem?_getD, List.getElem?_take, hk]
      have htl : (os.take u).length = u := by rw [List.length_take]; omega
      have hj : ∃ j, j < u ∧ ((os.getD j ob0).1 = ob ∨ (j = 0 ∧ ∀ k, k < u → (os.getD k ob0).1 ≠ ob)) := by
        rcases first_at (os.take u) ob with h | ⟨i, hi, h, h2⟩
        · exact ⟨0, by omega, .inr ⟨rfl, fun k hk => by rw [← htk k hk]; exact h k (by omega)⟩⟩
        · rw [htl] at hi
          exact ⟨i, hi, .inl (by rw [← htk i hi]; exact h2)⟩
      obtain ⟨j, hj, hat⟩ := hj
      obtain ⟨fr, hfr⟩ : ∃ fr, (os.take u).drop j = fr := ⟨_, rfl⟩
      have hmem : ∀ o ∈ fr, o ∈ os := fun o ho => by rw [← hfr] at ho; exact List.mem_of_mem_take (List.mem_of_mem_drop ho)
      have hfl : fr.length = u - j := by rw [← hfr, List.length_drop, htl]
      have hrl : roomOf fr ≤ fr.length := roomG_le 246 fr
      refine ⟨43, co, levelOf os, nextOf fr, moreOf fr, 0, roomOf fr, fr.take (roomOf fr), by omega, .inr ⟨rfl, rfl, by omega, by omega, ?_, ?_, ?_⟩, fun A n c W hl hc => ianswer_from A n c os co ob j u fr W hl hc hg hco3 hob hu hj hfr hat, fun A n c W hl hc => ranswer_from A n c os co ob j u fr W hl hc hg hco3 hob hu hj hfr hat⟩
      · unfold nextOf
        split
        · rename_i hlt
          exact hg.byte _ (hmem _ (by rw [List.getD_eq_getElem?_getD, List.getElem?_eq_getElem hlt]; exact List.getElem_mem _))
        · omega
      · exact fun o ho => hg.byte o (hmem o (List.mem_of_mem_take ho))
      · rcases Nat.eq_zero_or_pos (roomOf fr) with h0 | h0
        · rw [h0]; simp [used]
        · have := (roomG_in 246 fr (roomOf fr - 1) (by show roomOf fr - 1 < roomOf fr; omega)).2
          rwa [show roomOf fr - 1 + 1 = roomOf fr by omega] at this
  · refine ⟨0, 0, 0, 0, false, 3, 0, [], by omega, .inl (by decide), fun A n c W hl hc => ?_, fun A n c W hl hc => ?_⟩
    · exact (ianswer_bad A n c co ob W hin).mono fun e w' ⟨h1, h2⟩ => ⟨none, 0, h1, own2_none _ _ _, h2⟩
    · exact (ranswer_bad A n c co ob W hin).mono fun e w' ⟨h1, h2⟩ => ⟨none, 0, h1, own2_none _ _ _, h2⟩

end Go.Proofs.Ytoljpdamalcjeaa

/- What Parse makes of bytes: the request that they would be, if any. No function of the program. -/
import Derived.Test.YthmendcdfhlkkaaAskList
import Derived.Test.YthmendcdfhlkkaaPOr
namespace Go.Proofs.Ythmendcdfhlkkaa
open Go.ChangeShapes Go.WideShapes Go.ChangeAt Go.RowKit
set_option linter.unusedVariables false
set_option linter.unusedSimpArgs false

/-- A request. -/
structure Req where
  fn : Int
  at_ : Int
  n : Int
  v : Int
  an : Int
  orr : Int
  bs : List Bool
  ws : List Int
  ra : Int
  rn : Int
  co : Int
  ob : Int
/-- It is right. -/
def Req.right (r : Req) : Prop := rightP r.fn r.at_ r.n r.v r.an r.orr r.bs.length r.ws.length r.ra r.rn r.co r.ob
instance (r : Req) : Decidable r.right := by unfold Req.right; infer_instance
/-- Its numbers are of their types. -/
def Req.wide (r : Req) : Prop := Wide r.at_ r.n r.v r.an r.orr r.ra r.rn r.co r.ob

/-- The request that bytes of a known function would be, by their length and their form. -/
def cand (zs : List Int) (n : Nat) : Option Req :=
  if zs.getD 0 0 = 5 then (if n = 5 ∧ gotW zs n 3 = 0 then some ⟨5, gotW zs n 1, 0, 0, 0, 0, [], [], 0, 0, 0, 0⟩ else if n = 5 ∧ gotW zs n 3 = 65280 then some ⟨5, gotW zs n 1, 0, 1, 0, 0, [], [], 0, 0, 0, 0⟩ else none)
  else if zs.getD 0 0 = 6 then (if n = 5 then some ⟨6, gotW zs n 1, 0, gotW zs n 3, 0, 0, [], [], 0, 0, 0, 0⟩ else none)
  else if zs.getD 0 0 = 15 then (if 5 < n ∧ (n : Int) = 6 + zs.getD 5 0 ∧ nbI (gotW zs n 3) = zs.getD 5 0 then some ⟨15, gotW zs n 1, gotW zs n 3, 0, 0, 0, unb (zs.drop 6) (gotW zs n 3).toNat, [], 0, 0, 0, 0⟩ else none)
  else if zs.getD 0 0 = 16 then (if 5 < n ∧ (n : Int) = 6 + zs.getD 5 0 ∧ zs.getD 5 0 = gotW zs n 3 * 2 then some ⟨16, gotW zs n 1, gotW zs n 3, 0, 0, 0, [], wordsAt zs 6 (gotW zs n 3).toNat, 0, 0, 0, 0⟩ else none)
  else if zs.getD 0 0 = 22 then (if n = 7 then some ⟨22, gotW zs n 1, 0, 0, gotW zs n 3, gotW zs n 5, [], [], 0, 0, 0, 0⟩ else none)
  else if zs.getD 0 0 = 23 then (if 9 < n ∧ (n : Int) = 10 + zs.getD 9 0 ∧ zs.getD 9 0 = gotW zs n 7 * 2 then some ⟨23, gotW zs n 5, gotW zs n 7, 0, 0, 0, [], wordsAt zs 10 (gotW zs n 7).toNat, gotW zs n 1, gotW zs n 3, 0, 0⟩ else none)
  else if zs.getD 0 0 = 43 then (if n = 4 then some ⟨43, 0, 0, 0, 0, 0, [], [], 0, 0, zs.getD 2 0, zs.getD 3 0⟩ else none)
  else (if n = 5 then some ⟨zs.getD 0 0, gotW zs n 1, gotW zs n 3, 0, 0, 0, [], [], 0, 0, 0, 0⟩ else none)

section
variable {zs : List Int} {n : Nat}
theorem cand_read {f : Int} (h0 : zs.getD 0 0 = f) (hf : f = 1 ∨ f = 2 ∨ f = 3 ∨ f = 4) : cand zs n = if n = 5 then some ⟨f, gotW zs n 1, gotW zs n 3, 0, 0, 0, [], [], 0, 0, 0, 0⟩ else none := by
  unfold cand
  rw [h0]
  rcases hf with rfl | rfl | rfl | rfl <;> rfl
theorem cand_5 (h0 : zs.getD 0 0 = 5) : cand zs n = if n = 5 ∧ gotW zs n 3 = 0 then some ⟨5, gotW zs n 1, 0, 0, 0, 0, [], [], 0, 0, 0, 0⟩ else if n = 5 ∧ gotW zs n 3 = 65280 then some ⟨5, gotW zs n 1, 0, 1, 0, 0, [], [], 0, 0, 0, 0⟩ else none := by
  unfold cand; rw [h0]; rfl
theorem cand_6 (h0 : zs.getD 0 0 = 6) : cand zs n = if n = 5 then some ⟨6, gotW zs n 1, 0, gotW zs n 3, 0, 0, [], [], 0, 0, 0, 0⟩ else none := by
  unfold cand; rw [h0]; rfl
theorem cand_15 (h0 : zs.getD 0 0 = 15) : cand zs n = if 5 < n ∧ (n : Int) = 6 + zs.getD 5 0 ∧ nbI (gotW zs n 3) = zs.getD 5 0 then some ⟨15, gotW zs n 1, gotW zs n 3, 0, 0, 0, unb (zs.drop 6) (gotW zs n 3).toNat, [], 0, 0, 0, 0⟩ else none := by
  unfold cand; rw [h0]; rfl
theorem cand_16 (h0 : zs.getD 0 0 = 16) : cand zs n = if 5 < n ∧ (n : Int) = 6 + zs.getD 5 0 ∧ zs.getD 5 0 = gotW zs n 3 * 2 then some ⟨16, gotW zs n 1, gotW zs n 3, 0, 0, 0, [], wordsAt zs 6 (gotW zs n 3).toNat, 0, 0, 0, 0⟩ else none := by
  unfold cand; rw [h0]; rfl
theorem cand_22 (h0 : zs.getD 0 0 = 22) : cand zs n = if n = 7 then some ⟨22, gotW zs n 1, 0, 0, gotW zs n 3, gotW zs n 5, [], [], 0, 0, 0, 0⟩ else none := by
  unfold cand; rw [h0]; rfl
theorem cand_23 (h0 : zs.getD 0 0 = 23) : cand zs n = if 9 < n ∧ (n : Int) = 10 + zs.getD 9 0 ∧ zs.getD 9 0 = gotW zs n 7 * 2 then some ⟨23, gotW zs n 5, gotW zs n 7, 0, 0, 0, [], wordsAt zs 10 (gotW zs n 7).toNat, gotW zs n 1, gotW zs n 3, 0, 0⟩ else none := by
  unfold cand; rw [h0]; rfl
theorem cand_43 (h0 : zs.getD 0 0 = 43) : cand zs n = if n = 4 then some ⟨43, 0, 0, 0, 0, 0, [], [], 0, 0, zs.getD 2 0, zs.getD 3 0⟩ else none := by
  unfold cand; rw [h0]; rfl
end

/-- What Parse answers: a request and an exception. -/
def parseOf (zs : List Int) (n : Nat) : Req × Int :=
  if n = 0 ∨ 253 < n then (⟨0, 0, 0, 0, 0, 0, [], [], 0, 0, 0, 0⟩, 1)
  else if kKnown (zs.getD 0 0) = false then (⟨zs.getD 0 0, 0, 0, 0, 0, 0, [], [], 0, 0, 0, 0⟩, 1)
  else if zs.getD 0 0 = 43 ∧ n = 1 then (⟨zs.getD 0 0, 0, 0, 0, 0, 0, [], [], 0, 0, 0, 0⟩, 3)
  else if zs.getD 0 0 = 43 ∧ zs.getD 1 0 ≠ 14 then (⟨zs.getD 0 0, 0, 0, 0, 0, 0, [], [], 0, 0, 0, 0⟩, 1)
  else match cand zs n with
    | none => (⟨zs.getD 0 0, 0, 0, 0, 0, 0, [], [], 0, 0, 0, 0⟩, 3)
    | some r => if r.right then (r, 0) else (⟨zs.getD 0 0, 0, 0, 0, 0, 0, [], [], 0, 0, 0, 0⟩, 3)

theorem getD_drop (zs : List Int) (l i : Nat) : (zs.drop l).getD i 0 = zs.getD (l + i) 0 := by simp [List.getD]
theorem wordsAt_drop (zs : List Int) (l k : Nat) : wordsAt (zs.drop l) 0 k = wordsAt zs l k := by
  unfold wordsAt
  apply List.map_congr_left
  intro i _
  unfold wordAt
  rw [getD_drop, getD_drop]
  simp only [Nat.zero_add, Nat.add_assoc]
theorem words_nil : Words [] := fun x hx => by cases hx
theorem wide_cand {zs : List Int} {n : Nat} {r : Req} (hx : Bytes8 zs) (h : cand zs n = some r) : r.wide ∧ Words r.ws := by
  have g1 := gotW_bounds hx n 1
  have g3 := gotW_bounds hx n 3
  have g5 := gotW_bounds hx n 5
  have g7 := gotW_bounds hx n 7
  have b2 : 0 ≤ zs.getD 2 0 ∧ zs.getD 2 0 ≤ 255 := hx.at_ 2
  have b3 : 0 ≤ zs.getD 3 0 ∧ zs.getD 3 0 ≤ 255 := hx.at_ 3
  unfold cand at h
  repeat' split at h
  all_goals first
    | (cases h; done)
    | (injection h with h
       subst h
       refine ⟨?_, ?_⟩
       · constructor <;> (try dsimp only) <;> omega
       · first | exact words_nil | exact wordsAt_words hx _ _)

end Go.Proofs.Ythmendcdfhlkkaa

/- What the two Parses answer, side by side: how long lists are; the document's Parse with its answer named. -/
import Derived.Test.YtebpilfogdenjaaRParse2
import Derived.Test.YtebpilfogdenjaaAwake5
import Derived.Test.YtebpilfogdenjaaAskSame
namespace Go.Proofs.Ytebpilfogdenjaa
open Go.ChangeShapes Go.WideShapes Go.ChangeAt Go.RowKit
set_option linter.unusedVariables false
set_option linter.unusedSimpArgs false

theorem right_small (r : Req) (h : r.right) : r.bs.length ≤ 2000 ∧ r.ws.length ≤ 2000 := by
  obtain ⟨hk, hpl, _, _, hfit⟩ := h
  unfold plainP at hpl
  unfold fitsP at hfit
  have m15 : kMostW 15 = 1968 := rfl
  have m16 : kMostW 16 = 123 := rfl
  have m23 : kMostW 23 = 121 := rfl
  refine ⟨?_, ?_⟩
  · by_cases h15 : r.fn = 15
    · rw [h15] at hfit; omega
    · omega
  · by_cases h16 : r.fn = 16
    · rw [h16] at hfit; omega
    · by_cases h23 : r.fn = 23
      · rw [h23] at hfit; omega
      · omega
theorem parse_small (zs : List Int) (n : Nat) : (parseOf zs n).1.bs.length ≤ 2000 ∧ (parseOf zs n).1.ws.length ≤ 2000 := by
  unfold parseOf
  split
  · simp
  split
  · simp
  split
  · simp
  split
  · simp
  split
  · simp
  · rename_i r _
    split
    · rename_i hr
      exact right_small r hr
    · simp
theorem rparse_lit (zs : List Int) (n c : Nat) (A : Option Addr) (W : World) (fn at_ nn v an orr : Int) (bs : List Bool) (ws : List Int) (ra rn co ob x : Int) (ho : parseOf zs n = (⟨fn, at_, nn, v, an, orr, bs, ws, ra, rn, co, ob⟩, x)) (hr : Row .u8 W W.heap.size A n zs) (hx : Bytes8 zs) (hn : n ≤ 1000) (hc : n ≤ c) :
    Calls Try.prog 12 #[.slice A n c] W fun e w' => ∃ (BA WA : Option Addr) (bc wc : Nat), e = .returned (.tuple #[.agg #[.int .i64 fn, .int .i64 at_, .int .i64 nn, .int .u16 v, .int .u16 an, .int .u16 orr, .slice BA bs.length bc, .slice WA ws.length wc, .int .i64 ra, .int .i64 rn, .int .i64 co, .int .i64 ob], .int .i64 x]) ∧
      w'.ownsRow W.heap.size 4 1 (.slice BA bs.length bc) bs.length (bs.map Value.bool) ∧ w'.ownsRow W.heap.size 26 1 (.slice WA ws.length wc) ws.length (ws.map (Value.int .u16)) ∧ Below W.heap.size W w' := by
  have h := rparse_any A n c zs W hr hx hn hc
  rw [ho] at h
  exact h
theorem lent_front {w : World} {g n : Nat} {zs : List Int} (h : Whole .u8 w g 5 (zs ++ [165, 165, 165])) (hl : zs.length = n) : Row .u8 w w.heap.size (some ⟨g, 0, none⟩) n zs := by
  have hr := h.row
  rw [List.length_append, hl] at hr
  exact hr.front hl

end Go.Proofs.Ytebpilfogdenjaa

/- The document's AskBytes. -/
import Derived.Test.YtielfekkonflfaaAskWords
namespace Go.Proofs.Ytielfekkonflfaa
open Go.ChangeShapes Go.WideShapes Go.ChangeAt Go.RowKit
set_option linter.unusedVariables false
set_option linter.unusedSimpArgs false

theorem right_yes (fn at_ n v an orr : Int) (bl wl : Nat) (ra rn co ob : Int) (BA WA : Option Addr) (bc wc : Nat) (w : World) (h : rightP fn at_ n v an orr bl wl ra rn co ob) :
    Calls Try.prog 42 #[.agg #[.int .i64 fn, .int .i64 at_, .int .i64 n, .int .u16 v, .int .u16 an, .int .u16 orr, .slice BA bl bc, .slice WA wl wc, .int .i64 ra, .int .i64 rn, .int .i64 co, .int .i64 ob]] w fun e w' => e = .returned (.bool true) ∧ Below w.heap.size w w' := by
  have := rright_any fn at_ n v an orr bl wl ra rn co ob BA WA bc wc w
  rwa [decide_eq_true h] at this
theorem right_no (fn at_ n v an orr : Int) (bl wl : Nat) (ra rn co ob : Int) (BA WA : Option Addr) (bc wc : Nat) (w : World) (h : ¬ rightP fn at_ n v an orr bl wl ra rn co ob) :
    Calls Try.prog 42 #[.agg #[.int .i64 fn, .int .i64 at_, .int .i64 n, .int .u16 v, .int .u16 an, .int .u16 orr, .slice BA bl bc, .slice WA wl wc, .int .i64 ra, .int .i64 rn, .int .i64 co, .int .i64 ob]] w fun e w' => e = .returned (.bool false) ∧ Below w.heap.size w w' := by
  have := rright_any fn at_ n v an orr bl wl ra rn co ob BA WA bc wc w
  rwa [decide_eq_false h] at this

theorem rbytes_of {P : Program} {f : FuncId} {a : Array Value} {w : World} {ys zs : List Int} {n : Nat} (h : Calls P f a w fun e w' => ∃ C cap, e = .returned (.tuple #[.slice C n cap, .int .i64 0]) ∧ Row .u8 w' w'.heap.size C n ys ∧ Below w.heap.size w w') (hl : ys = zs) (hn : zs.length = n) :
    Calls P f a w fun e w' => ∃ C cap, e = .returned (.tuple #[.slice C zs.length cap, .int .i64 0]) ∧ Row .u8 w' w'.heap.size C zs.length zs ∧ Below w.heap.size w w' := by
  subst hl hn
  exact h
end Go.Proofs.Ytielfekkonflfaa

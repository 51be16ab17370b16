/-
  No cell of these rows narrows 'for every input' (looked for: loops, veiled, ifaces, maps, wideKeys, modest, calm, conditions, laid).
  DERIVED. THE GIVEN ROWS OF THIS SEAT. 9 by the template 'for every input the law returns true; each argument reads behind the call as it read before'; 0 by the template 'total and deterministic' (their statements: YtoljpdamalcjeaaTotals.lean).
  GIVEN WITH THE SEED: the statements are not yours to turn. If you find one false, say at which input.
  Laid BY PROGRAM, IN A SANDBOX (cutbox-rows.mjs): the forced cells as the released guide's own fill.sh prints them over the translation d6c24addd027677a… (all of the seat's roots in one cut). By AI agents, Wed Nov 11 2026. No macro, syntax, notation, axiom, sorry.
-/
import Derived.Test.YtoljpdamalcjeaaChecked
import GoSem.Claim
import GoSem.ClaimJoined
import GoSem.ClaimMapViews
import Derived.JoinedTies
import Derived.KernelRfl
namespace Go.Proofs.Ytoljpdamalcjeaa
/- THE CELL 'sum', in the pinned program and in every row, IS THE sha256 OF THE DUMP (.gsa) THAT YtoljpdamalcjeaaProg.lean LOADS. Nothing in Lean hashes anything: it is a label: what it is worth is what the hold of that sum in a sandbox is worth. -/
noncomputable def Try.pinned : Pinned := { name := "ytoljpdamalcjeaa", sum := "d6c24addd027677a5c9cb0c517323b32fdc1fab9d93174c9d0e4ef55ed18b269", checked := Try.checked }
namespace Rows
def none {H : Type} : Left H := { results := [], args := [] }

/-- 'busbarlaw8.AduTells': WHATEVER THE INPUT: true; the input reads as it did. -/
def aduTellsSpec : ChangeSpec := { name := "aduTells", fn := fun _ => fun
  | [d1, d2, d3, d4, d5] => { results := [.lit (.bool true)], args := [d1, d2, d3, d4, d5] }
  | _ => none }
def aduTellsRow : OpenClaim := { program := "ytoljpdamalcjeaa", sum := "d6c24addd027677a5c9cb0c517323b32fdc1fab9d93174c9d0e4ef55ed18b269", func := "busbar/busbarlaw8.AduTells", spec := "aduTells", apart := false }
def AduTellsSaid : Prop := aduTellsRow.holds Try.pinned (OpenSpec.ofChange aduTellsSpec)

/-- ITS FALSE NEIGHBOUR: 'it returns false'. Refute it at one input. -/
def aduTellsWrong : ChangeSpec := { name := "aduTells", fn := fun _ => fun
  | [d1, d2, d3, d4, d5] => { results := [.lit (.bool false)], args := [d1, d2, d3, d4, d5] }
  | _ => none }
def AduTellsWrongFalsely : Prop := aduTellsRow.holds Try.pinned (OpenSpec.ofChange aduTellsWrong)

/-- 'busbarlaw8.AduCuts': WHATEVER THE INPUT: true; the input reads as it did. -/
def aduCutsSpec : ChangeSpec := { name := "aduCuts", fn := fun _ => fun
  | [d1, d2, d3] => { results := [.lit (.bool true)], args := [d1, d2, d3] }
  | _ => none }
def aduCutsRow : OpenClaim := { program := "ytoljpdamalcjeaa", sum := "d6c24addd027677a5c9cb0c517323b32fdc1fab9d93174c9d0e4ef55ed18b269", func := "busbar/busbarlaw8.AduCuts", spec := "aduCuts", apart := false }
def AduCutsSaid : Prop := aduCutsRow.holds Try.pinned (OpenSpec.ofChange aduCutsSpec)

/-- ITS FALSE NEIGHBOUR: 'it returns false'. Refute it at one input. -/
def aduCutsWrong : ChangeSpec := { name := "aduCuts", fn := fun _ => fun
  | [d1, d2, d3] => { results := [.lit (.bool false)], args := [d1, d2, d3] }
  | _ => none }
def AduCutsWrongFalsely : Prop := aduCutsRow.holds Try.pinned (OpenSpec.ofChange aduCutsWrong)

/-- 'busbarlaw8.AduRow': WHATEVER THE INPUT: true; the input reads as it did. -/
def aduRowSpec : ChangeSpec := { name := "aduRow", fn := fun _ => fun
  | [d1, d2] => { results := [.lit (.bool true)], args := [d1, d2] }
  | _ => none }
def aduRowRow : OpenClaim := { program := "ytoljpdamalcjeaa", sum := "d6c24addd027677a5c9cb0c517323b32fdc1fab9d93174c9d0e4ef55ed18b269", func := "busbar/busbarlaw8.AduRow", spec := "aduRow", apart := false }
def AduRowSaid : Prop := aduRowRow.holds Try.pinned (OpenSpec.ofChange aduRowSpec)

/-- ITS FALSE NEIGHBOUR: 'it returns false'. Refute it at one input. -/
def aduRowWrong : ChangeSpec := { name := "aduRow", fn := fun _ => fun
  | [d1, d2] => { results := [.lit (.bool false)], args := [d1, d2] }
  | _ => none }
def AduRowWrongFalsely : Prop := aduRowRow.holds Try.pinned (OpenSpec.ofChange aduRowWrong)

/-- 'busbarlaw8.AduFronts': WHATEVER THE INPUT: true; the input reads as it did. -/
def aduFrontsSpec : ChangeSpec := { name := "aduFronts", fn := fun _ => fun
  | [d1, d2] => { results := [.lit (.bool true)], args := [d1, d2] }
  | _ => none }
def aduFrontsRow : OpenClaim := { program := "ytoljpdamalcjeaa", sum := "d6c24addd027677a5c9cb0c517323b32fdc1fab9d93174c9d0e4ef55ed18b269", func := "busbar/busbarlaw8.AduFronts", spec := "aduFronts", apart := false }
def AduFrontsSaid : Prop := aduFrontsRow.holds Try.pinned (OpenSpec.ofChange aduFrontsSpec)

/-- ITS FALSE NEIGHBOUR: 'it returns false'. Refute it at one input. -/
def aduFrontsWrong : ChangeSpec := { name := "aduFronts", fn := fun _ => fun
  | [d1, d2] => { results := [.lit (.bool false)], args := [d1, d2] }
  | _ => none }
def AduFrontsWrongFalsely : Prop := aduFrontsRow.holds Try.pinned (OpenSpec.ofChange aduFrontsWrong)

/-- 'busbarlaw6.TellTells': WHATEVER THE INPUT: true; the input reads as it did. -/
def tellTellsSpec : ChangeSpec := { name := "tellTells", fn := fun _ => fun
  | [d] => { results := [.lit (.bool true)], args := [d] }
  | _ => none }
def tellTellsRow : OpenClaim := { program := "ytoljpdamalcjeaa", sum := "d6c24addd027677a5c9cb0c517323b32fdc1fab9d93174c9d0e4ef55ed18b269", func := "busbar/busbarlaw6.TellTells", spec := "tellTells", apart := false }
def TellTellsSaid : Prop := tellTellsRow.holds Try.pinned (OpenSpec.ofChange tellTellsSpec)

/-- ITS FALSE NEIGHBOUR: 'it returns false'. Refute it at one input. -/
def tellTellsWrong : ChangeSpec := { name := "tellTells", fn := fun _ => fun
  | [d] => { results := [.lit (.bool false)], args := [d] }
  | _ => none }
def TellTellsWrongFalsely : Prop := tellTellsRow.holds Try.pinned (OpenSpec.ofChange tellTellsWrong)

/-- 'busbarlaw6.TellReads': WHATEVER THE INPUT: true; the input reads as it did. -/
def tellReadsSpec : ChangeSpec := { name := "tellReads", fn := fun _ => fun
  | [d1, d2, d3, d4] => { results := [.lit (.bool true)], args := [d1, d2, d3, d4] }
  | _ => none }
def tellReadsRow : OpenClaim := { program := "ytoljpdamalcjeaa", sum := "d6c24addd027677a5c9cb0c517323b32fdc1fab9d93174c9d0e4ef55ed18b269", func := "busbar/busbarlaw6.TellReads", spec := "tellReads", apart := false }
def TellReadsSaid : Prop := tellReadsRow.holds Try.pinned (OpenSpec.ofChange tellReadsSpec)

/-- ITS FALSE NEIGHBOUR: 'it returns false'. Refute it at one input. -/
def tellReadsWrong : ChangeSpec := { name := "tellReads", fn := fun _ => fun
  | [d1, d2, d3, d4] => { results := [.lit (.bool false)], args := [d1, d2, d3, d4] }
  | _ => none }
def TellReadsWrongFalsely : Prop := tellReadsRow.holds Try.pinned (OpenSpec.ofChange tellReadsWrong)

/-- 'busbarlaw6.TellBack': WHATEVER THE INPUT: true; the input reads as it did. -/
def tellBackSpec : ChangeSpec := { name := "tellBack", fn := fun _ => fun
  | [d1, d2, d3, d4, d5, d6, d7] => { results := [.lit (.bool true)], args := [d1, d2, d3, d4, d5, d6, d7] }
  | _ => none }
def tellBackRow : OpenClaim := { program := "ytoljpdamalcjeaa", sum := "d6c24addd027677a5c9cb0c517323b32fdc1fab9d93174c9d0e4ef55ed18b269", func := "busbar/busbarlaw6.TellBack", spec := "tellBack", apart := false }
def TellBackSaid : Prop := tellBackRow.holds Try.pinned (OpenSpec.ofChange tellBackSpec)

/-- ITS FALSE NEIGHBOUR: 'it returns false'. Refute it at one input. -/
def tellBackWrong : ChangeSpec := { name := "tellBack", fn := fun _ => fun
  | [d1, d2, d3, d4, d5, d6, d7] => { results := [.lit (.bool false)], args := [d1, d2, d3, d4, d5, d6, d7] }
  | _ => none }
def TellBackWrongFalsely : Prop := tellBackRow.holds Try.pinned (OpenSpec.ofChange tellBackWrong)

/-- 'busbarlaw6.TellFits': WHATEVER THE INPUT: true; the input reads as it did. -/
def tellFitsSpec : ChangeSpec := { name := "tellFits", fn := fun _ => fun
  | [d1, d2, d3] => { results := [.lit (.bool true)], args := [d1, d2, d3] }
  | _ => none }
def tellFitsRow : OpenClaim := { program := "ytoljpdamalcjeaa", sum := "d6c24addd027677a5c9cb0c517323b32fdc1fab9d93174c9d0e4ef55ed18b269", func := "busbar/busbarlaw6.TellFits", spec := "tellFits", apart := false }
def TellFitsSaid : Prop := tellFitsRow.holds Try.pinned (OpenSpec.ofChange tellFitsSpec)

/-- ITS FALSE NEIGHBOUR: 'it returns false'. Refute it at one input. -/
def tellFitsWrong : ChangeSpec := { name := "tellFits", fn := fun _ => fun
  | [d1, d2, d3] => { results := [.lit (.bool false)], args := [d1, d2, d3] }
  | _ => none }
def TellFitsWrongFalsely : Prop := tellFitsRow.holds Try.pinned (OpenSpec.ofChange tellFitsWrong)

/-- 'busbarlaw7.IdenAnswers': WHATEVER THE INPUT: true; the input reads as it did. -/
def idenAnswersSpec : ChangeSpec := { name := "idenAnswers", fn := fun _ => fun
  | [d1, d2, d3, d4] => { results := [.lit (.bool true)], args := [d1, d2, d3, d4] }
  | _ => none }
def idenAnswersRow : OpenClaim := { program := "ytoljpdamalcjeaa", sum := "d6c24addd027677a5c9cb0c517323b32fdc1fab9d93174c9d0e4ef55ed18b269", func := "busbar/busbarlaw7.IdenAnswers", spec := "idenAnswers", apart := false }
def IdenAnswersSaid : Prop := idenAnswersRow.holds Try.pinned (OpenSpec.ofChange idenAnswersSpec)

/-- ITS FALSE NEIGHBOUR: 'it returns false'. Refute it at one input. -/
def idenAnswersWrong : ChangeSpec := { name := "idenAnswers", fn := fun _ => fun
  | [d1, d2, d3, d4] => { results := [.lit (.bool false)], args := [d1, d2, d3, d4] }
  | _ => none }
def IdenAnswersWrongFalsely : Prop := idenAnswersRow.holds Try.pinned (OpenSpec.ofChange idenAnswersWrong)

/- THE SECOND FORM. 'bulk': how many values and letters a reading holds, each counted each time it is reached (what is shared counts as often as it is met; a slice's spare places count too). A statement '..UptoSaid' is the law's where the arguments, and the package variables that the reading takes, are together of bulk at most 1048576: NARROWER than '..Said'. Prove '..Said' where nothing that the law and all that it calls make is longer than what came in: it says more and counts as full. Else prove '..UptoSaid'. A law counts once. -/
mutual
def uptoBulk {H : Type} : DataW H → Nat
  | .lit (.string bytes) => bytes.length + 1
  | .lit _ => 1
  | .nil => 1
  | .ptr d => uptoBulk d + 1
  | .slice elems spare => uptoBulkAll elems + uptoBulkAll spare + 1
  | .agg parts => uptoBulkAll parts + 1
  | .iface _ d => uptoBulk d + 1
  | .map entries => uptoBulkEntries entries + 1
  | .held _ => 1
def uptoBulkAll {H : Type} : List (DataW H) → Nat
  | [] => 0
  | d :: r => uptoBulk d + uptoBulkAll r
def uptoBulkEntries {H : Type} : List (Lit × DataW H) → Nat
  | [] => 0
  | x :: r => uptoBulkEntry x + uptoBulkEntries r
def uptoBulkEntry {H : Type} : Lit × DataW H → Nat
  | (.string bytes, d) => bytes.length + uptoBulk d + 1
  | (_, d) => uptoBulk d + 1
 end
def uptoSmall : (H : Type) → List (DataW H) → Bool := fun _ ds => decide (uptoBulkAll ds ≤ 1048576)
def OpenSpec.upto (s : _root_.Go.ChangeSpec) : _root_.Go.OpenSpec := { _root_.Go.OpenSpec.ofChange s with cond := some uptoSmall }

/-- 'busbarlaw8.AduTells', WHERE WHAT IT READS IS OF BULK AT MOST 1048576: true; the input reads as it did. -/
def aduTellsUptoRow : OpenClaim := { program := "ytoljpdamalcjeaa", sum := "d6c24addd027677a5c9cb0c517323b32fdc1fab9d93174c9d0e4ef55ed18b269", func := "busbar/busbarlaw8.AduTells", spec := "aduTells", apart := false, narrowed := true }
def AduTellsUptoSaid : Prop := aduTellsUptoRow.holds Try.pinned (OpenSpec.upto aduTellsSpec)

/-- 'busbarlaw8.AduCuts', WHERE WHAT IT READS IS OF BULK AT MOST 1048576: true; the input reads as it did. -/
def aduCutsUptoRow : OpenClaim := { program := "ytoljpdamalcjeaa", sum := "d6c24addd027677a5c9cb0c517323b32fdc1fab9d93174c9d0e4ef55ed18b269", func := "busbar/busbarlaw8.AduCuts", spec := "aduCuts", apart := false, narrowed := true }
def AduCutsUptoSaid : Prop := aduCutsUptoRow.holds Try.pinned (OpenSpec.upto aduCutsSpec)

/-- 'busbarlaw8.AduRow', WHERE WHAT IT READS IS OF BULK AT MOST 1048576: true; the input reads as it did. -/
def aduRowUptoRow : OpenClaim := { program := "ytoljpdamalcjeaa", sum := "d6c24addd027677a5c9cb0c517323b32fdc1fab9d93174c9d0e4ef55ed18b269", func := "busbar/busbarlaw8.AduRow", spec := "aduRow", apart := false, narrowed := true }
def AduRowUptoSaid : Prop := aduRowUptoRow.holds Try.pinned (OpenSpec.upto aduRowSpec)

/-- 'busbarlaw8.AduFronts', WHERE WHAT IT READS IS OF BULK AT MOST 1048576: true; the input reads as it did. -/
def aduFrontsUptoRow : OpenClaim := { program := "ytoljpdamalcjeaa", sum := "d6c24addd027677a5c9cb0c517323b32fdc1fab9d93174c9d0e4ef55ed18b269", func := "busbar/busbarlaw8.AduFronts", spec := "aduFronts", apart := false, narrowed := true }
def AduFrontsUptoSaid : Prop := aduFrontsUptoRow.holds Try.pinned (OpenSpec.upto aduFrontsSpec)

/-- 'busbarlaw6.TellTells', WHERE WHAT IT READS IS OF BULK AT MOST 1048576: true; the input reads as it did. -/
def tellTellsUptoRow : OpenClaim := { program := "ytoljpdamalcjeaa", sum := "d6c24addd027677a5c9cb0c517323b32fdc1fab9d93174c9d0e4ef55ed18b269", func := "busbar/busbarlaw6.TellTells", spec := "tellTells", apart := false, narrowed := true }
def TellTellsUptoSaid : Prop := tellTellsUptoRow.holds Try.pinned (OpenSpec.upto tellTellsSpec)

/-- 'busbarlaw6.TellReads', WHERE WHAT IT READS IS OF BULK AT MOST 1048576: true; the input reads as it did. -/
def tellReadsUptoRow : OpenClaim := { program := "ytoljpdamalcjeaa", sum := "d6c24addd027677a5c9cb0c517323b32fdc1fab9d93174c9d0e4ef55ed18b269", func := "busbar/busbarlaw6.TellReads", spec := "tellReads", apart := false, narrowed := true }
def TellReadsUptoSaid : Prop := tellReadsUptoRow.holds Try.pinned (OpenSpec.upto tellReadsSpec)

/-- 'busbarlaw6.TellBack', WHERE WHAT IT READS IS OF BULK AT MOST 1048576: true; the input reads as it did. -/
def tellBackUptoRow : OpenClaim := { program := "ytoljpdamalcjeaa", sum := "d6c24addd027677a5c9cb0c517323b32fdc1fab9d93174c9d0e4ef55ed18b269", func := "busbar/busbarlaw6.TellBack", spec := "tellBack", apart := false, narrowed := true }
def TellBackUptoSaid : Prop := tellBackUptoRow.holds Try.pinned (OpenSpec.upto tellBackSpec)

/-- 'busbarlaw6.TellFits', WHERE WHAT IT READS IS OF BULK AT MOST 1048576: true; the input reads as it did. -/
def tellFitsUptoRow : OpenClaim := { program := "ytoljpdamalcjeaa", sum := "d6c24addd027677a5c9cb0c517323b32fdc1fab9d93174c9d0e4ef55ed18b269", func := "busbar/busbarlaw6.TellFits", spec := "tellFits", apart := false, narrowed := true }
def TellFitsUptoSaid : Prop := tellFitsUptoRow.holds Try.pinned (OpenSpec.upto tellFitsSpec)

/-- 'busbarlaw7.IdenAnswers', WHERE WHAT IT READS IS OF BULK AT MOST 1048576: true; the input reads as it did. -/
def idenAnswersUptoRow : OpenClaim := { program := "ytoljpdamalcjeaa", sum := "d6c24addd027677a5c9cb0c517323b32fdc1fab9d93174c9d0e4ef55ed18b269", func := "busbar/busbarlaw7.IdenAnswers", spec := "idenAnswers", apart := false, narrowed := true }
def IdenAnswersUptoSaid : Prop := idenAnswersUptoRow.holds Try.pinned (OpenSpec.upto idenAnswersSpec)

end Rows
end Go.Proofs.Ytoljpdamalcjeaa

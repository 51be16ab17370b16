/-
  No cell of these rows narrows 'for every input' (looked for: loops, veiled, ifaces, maps, wideKeys, modest, calm, conditions, laid).
  DERIVED. THE GIVEN ROWS OF THIS SEAT. 7 by the template 'for every input the law returns true; each argument reads behind the call as it read before'; 0 by the template 'total and deterministic' (their statements: YthmendcdfhlkkaaTotals.lean).
  GIVEN WITH THE SEED: the statements are not yours to turn. If you find one false, say at which input.
  Laid BY PROGRAM, IN A SANDBOX (cutbox-rows.mjs): the forced cells as the released guide's own fill.sh prints them over the translation aaaf4f82656274fa… (all of the seat's roots in one cut). By AI agents, Wed Nov 11 2026. No macro, syntax, notation, axiom, sorry.
-/
import Derived.Test.YthmendcdfhlkkaaChecked
import GoSem.Claim
import GoSem.ClaimJoined
import GoSem.ClaimMapViews
import Derived.JoinedTies
import Derived.KernelRfl
namespace Go.Proofs.Ythmendcdfhlkkaa
/- THE CELL 'sum', in the pinned program and in every row, IS THE sha256 OF THE DUMP (.gsa) THAT YthmendcdfhlkkaaProg.lean LOADS. Nothing in Lean hashes anything: it is a label: what it is worth is what the hold of that sum in a sandbox is worth. -/
noncomputable def Try.pinned : Pinned := { name := "ythmendcdfhlkkaa", sum := "aaaf4f82656274fac55443272fa15fe5dcff3a59bf5485b62274f1fafc4d1d44", checked := Try.checked }
namespace Rows
def none {H : Type} : Left H := { results := [], args := [] }

/-- 'busbarlaw6.TellReads': WHATEVER THE INPUT: true; the input reads as it did. -/
def tellReadsSpec : ChangeSpec := { name := "tellReads", fn := fun _ => fun
  | [d1, d2, d3, d4] => { results := [.lit (.bool true)], args := [d1, d2, d3, d4] }
  | _ => none }
def tellReadsRow : OpenClaim := { program := "ythmendcdfhlkkaa", sum := "aaaf4f82656274fac55443272fa15fe5dcff3a59bf5485b62274f1fafc4d1d44", func := "busbar/busbarlaw6.TellReads", spec := "tellReads", apart := false }
def TellReadsSaid : Prop := tellReadsRow.holds Try.pinned (OpenSpec.ofChange tellReadsSpec)

/-- ITS FALSE NEIGHBOUR: 'it returns false'. Refute it at one input. -/
def tellReadsWrong : ChangeSpec := { name := "tellReads", fn := fun _ => fun
  | [d1, d2, d3, d4] => { results := [.lit (.bool false)], args := [d1, d2, d3, d4] }
  | _ => none }
def TellReadsWrongFalsely : Prop := tellReadsRow.holds Try.pinned (OpenSpec.ofChange tellReadsWrong)

/-- 'busbarlaw6.TellBack': WHATEVER THE INPUT: true; the input reads as it did. -/
def tellBackSpec : ChangeSpec := { name := "tellBack", fn := fun _ => fun
  | [d1, d2, d3, d4, d5, d6, d7] => { results := [.lit (.bool true)], args := [d1, d2, d3, d4, d5, d6, d7] }
  | _ => none }
def tellBackRow : OpenClaim := { program := "ythmendcdfhlkkaa", sum := "aaaf4f82656274fac55443272fa15fe5dcff3a59bf5485b62274f1fafc4d1d44", func := "busbar/busbarlaw6.TellBack", spec := "tellBack", apart := false }
def TellBackSaid : Prop := tellBackRow.holds Try.pinned (OpenSpec.ofChange tellBackSpec)

/-- ITS FALSE NEIGHBOUR: 'it returns false'. Refute it at one input. -/
def tellBackWrong : ChangeSpec := { name := "tellBack", fn := fun _ => fun
  | [d1, d2, d3, d4, d5, d6, d7] => { results := [.lit (.bool false)], args := [d1, d2, d3, d4, d5, d6, d7] }
  | _ => none }
def TellBackWrongFalsely : Prop := tellBackRow.holds Try.pinned (OpenSpec.ofChange tellBackWrong)

/-- 'busbarlaw6.TellFits': WHATEVER THE INPUT: true; the input reads as it did. -/
def tellFitsSpec : ChangeSpec := { name := "tellFits", fn := fun _ => fun
  | [d1, d2, d3] => { results := [.lit (.bool true)], args := [d1, d2, d3] }
  | _ => none }
def tellFitsRow : OpenClaim := { program := "ythmendcdfhlkkaa", sum := "aaaf4f82656274fac55443272fa15fe5dcff3a59bf5485b62274f1fafc4d1d44", func := "busbar/busbarlaw6.TellFits", spec := "tellFits", apart := false }
def TellFitsSaid : Prop := tellFitsRow.holds Try.pinned (OpenSpec.ofChange tellFitsSpec)

/-- ITS FALSE NEIGHBOUR: 'it returns false'. Refute it at one input. -/
def tellFitsWrong : ChangeSpec := { name := "tellFits", fn := fun _ => fun
  | [d1, d2, d3] => { results := [.lit (.bool false)], args := [d1, d2, d3] }
  | _ => none }
def TellFitsWrongFalsely : Prop := tellFitsRow.holds Try.pinned (OpenSpec.ofChange tellFitsWrong)

/-- 'busbarlaw10.FlowPlays': WHATEVER THE INPUT: true; the input reads as it did. -/
def flowPlaysSpec : ChangeSpec := { name := "flowPlays", fn := fun _ => fun
  | [d1, d2, d3, d4, d5, d6] => { results := [.lit (.bool true)], args := [d1, d2, d3, d4, d5, d6] }
  | _ => none }
def flowPlaysRow : OpenClaim := { program := "ythmendcdfhlkkaa", sum := "aaaf4f82656274fac55443272fa15fe5dcff3a59bf5485b62274f1fafc4d1d44", func := "busbar/busbarlaw10.FlowPlays", spec := "flowPlays", apart := false }
def FlowPlaysSaid : Prop := flowPlaysRow.holds Try.pinned (OpenSpec.ofChange flowPlaysSpec)

/-- ITS FALSE NEIGHBOUR: 'it returns false'. Refute it at one input. -/
def flowPlaysWrong : ChangeSpec := { name := "flowPlays", fn := fun _ => fun
  | [d1, d2, d3, d4, d5, d6] => { results := [.lit (.bool false)], args := [d1, d2, d3, d4, d5, d6] }
  | _ => none }
def FlowPlaysWrongFalsely : Prop := flowPlaysRow.holds Try.pinned (OpenSpec.ofChange flowPlaysWrong)

/-- 'busbarlaw10.FlowCuts': WHATEVER THE INPUT: true; the input reads as it did. -/
def flowCutsSpec : ChangeSpec := { name := "flowCuts", fn := fun _ => fun
  | [d1, d2] => { results := [.lit (.bool true)], args := [d1, d2] }
  | _ => none }
def flowCutsRow : OpenClaim := { program := "ythmendcdfhlkkaa", sum := "aaaf4f82656274fac55443272fa15fe5dcff3a59bf5485b62274f1fafc4d1d44", func := "busbar/busbarlaw10.FlowCuts", spec := "flowCuts", apart := false }
def FlowCutsSaid : Prop := flowCutsRow.holds Try.pinned (OpenSpec.ofChange flowCutsSpec)

/-- ITS FALSE NEIGHBOUR: 'it returns false'. Refute it at one input. -/
def flowCutsWrong : ChangeSpec := { name := "flowCuts", fn := fun _ => fun
  | [d1, d2] => { results := [.lit (.bool false)], args := [d1, d2] }
  | _ => none }
def FlowCutsWrongFalsely : Prop := flowCutsRow.holds Try.pinned (OpenSpec.ofChange flowCutsWrong)

/-- 'busbarlaw10.FlowBad': WHATEVER THE INPUT: true; the input reads as it did. -/
def flowBadSpec : ChangeSpec := { name := "flowBad", fn := fun _ => fun
  | [d1, d2, d3, d4] => { results := [.lit (.bool true)], args := [d1, d2, d3, d4] }
  | _ => none }
def flowBadRow : OpenClaim := { program := "ythmendcdfhlkkaa", sum := "aaaf4f82656274fac55443272fa15fe5dcff3a59bf5485b62274f1fafc4d1d44", func := "busbar/busbarlaw10.FlowBad", spec := "flowBad", apart := false }
def FlowBadSaid : Prop := flowBadRow.holds Try.pinned (OpenSpec.ofChange flowBadSpec)

/-- ITS FALSE NEIGHBOUR: 'it returns false'. Refute it at one input. -/
def flowBadWrong : ChangeSpec := { name := "flowBad", fn := fun _ => fun
  | [d1, d2, d3, d4] => { results := [.lit (.bool false)], args := [d1, d2, d3, d4] }
  | _ => none }
def FlowBadWrongFalsely : Prop := flowBadRow.holds Try.pinned (OpenSpec.ofChange flowBadWrong)

/-- 'busbarlaw10.FlowRoom': WHATEVER THE INPUT: true; the input reads as it did. -/
def flowRoomSpec : ChangeSpec := { name := "flowRoom", fn := fun _ => fun
  | [d1, d2, d3] => { results := [.lit (.bool true)], args := [d1, d2, d3] }
  | _ => none }
def flowRoomRow : OpenClaim := { program := "ythmendcdfhlkkaa", sum := "aaaf4f82656274fac55443272fa15fe5dcff3a59bf5485b62274f1fafc4d1d44", func := "busbar/busbarlaw10.FlowRoom", spec := "flowRoom", apart := false }
def FlowRoomSaid : Prop := flowRoomRow.holds Try.pinned (OpenSpec.ofChange flowRoomSpec)

/-- ITS FALSE NEIGHBOUR: 'it returns false'. Refute it at one input. -/
def flowRoomWrong : ChangeSpec := { name := "flowRoom", fn := fun _ => fun
  | [d1, d2, d3] => { results := [.lit (.bool false)], args := [d1, d2, d3] }
  | _ => none }
def FlowRoomWrongFalsely : Prop := flowRoomRow.holds Try.pinned (OpenSpec.ofChange flowRoomWrong)

/- THE SECOND FORM. 'bulk': how many values and letters a reading holds, each counted each time it is reached (what is shared counts as often as it is met; a slice's spare places count too). A statement '..UptoSaid' is the law's where the arguments, and the package variables that the reading takes, are together of bulk at most 1048576: NARROWER than '..Said'. Prove '..Said' where nothing that the law and all that it calls make is longer than what came in: it says more and counts as full. Else prove '..UptoSaid'. A law counts once. -/
mutual
def uptoBulk {H : Type} : DataW H → Nat
  | .lit (.string bytes) => bytes.length + 1
  | .lit _ => 1
  | .nil => 1
  | .ptr d => uptoBulk d + 1
  | .slice elems spare => uptoBulkAll elems + uptoBulkAll spare + 1
  | .agg parts => uptoBulkAll parts + 1
  | .iface _ d => uptoBulk d + 1
  | .map entries => uptoBulkEntries entries + 1
  | .held _ => 1
def uptoBulkAll {H : Type} : List (DataW H) → Nat
  | [] => 0
  | d :: r => uptoBulk d + uptoBulkAll r
def uptoBulkEntries {H : Type} : List (Lit × DataW H) → Nat
  | [] => 0
  | x :: r => uptoBulkEntry x + uptoBulkEntries r
def uptoBulkEntry {H : Type} : Lit × DataW H → Nat
  | (.string bytes, d) => bytes.length + uptoBulk d + 1
  | (_, d) => uptoBulk d + 1
 end
def uptoSmall : (H : Type) → List (DataW H) → Bool := fun _ ds => decide (uptoBulkAll ds ≤ 1048576)
def OpenSpec.upto (s : _root_.Go.ChangeSpec) : _root_.Go.OpenSpec := { _root_.Go.OpenSpec.ofChange s with cond := some uptoSmall }

/-- 'busbarlaw6.TellReads', WHERE WHAT IT READS IS OF BULK AT MOST 1048576: true; the input reads as it did. -/
def tellReadsUptoRow : OpenClaim := { program := "ythmendcdfhlkkaa", sum := "aaaf4f82656274fac55443272fa15fe5dcff3a59bf5485b62274f1fafc4d1d44", func := "busbar/busbarlaw6.TellReads", spec := "tellReads", apart := false, narrowed := true }
def TellReadsUptoSaid : Prop := tellReadsUptoRow.holds Try.pinned (OpenSpec.upto tellReadsSpec)

/-- 'busbarlaw6.TellBack', WHERE WHAT IT READS IS OF BULK AT MOST 1048576: true; the input reads as it did. -/
def tellBackUptoRow : OpenClaim := { program := "ythmendcdfhlkkaa", sum := "aaaf4f82656274fac55443272fa15fe5dcff3a59bf5485b62274f1fafc4d1d44", func := "busbar/busbarlaw6.TellBack", spec := "tellBack", apart := false, narrowed := true }
def TellBackUptoSaid : Prop := tellBackUptoRow.holds Try.pinned (OpenSpec.upto tellBackSpec)

/-- 'busbarlaw6.TellFits', WHERE WHAT IT READS IS OF BULK AT MOST 1048576: true; the input reads as it did. -/
def tellFitsUptoRow : OpenClaim := { program := "ythmendcdfhlkkaa", sum := "aaaf4f82656274fac55443272fa15fe5dcff3a59bf5485b62274f1fafc4d1d44", func := "busbar/busbarlaw6.TellFits", spec := "tellFits", apart := false, narrowed := true }
def TellFitsUptoSaid : Prop := tellFitsUptoRow.holds Try.pinned (OpenSpec.upto tellFitsSpec)

/-- 'busbarlaw10.FlowPlays', WHERE WHAT IT READS IS OF BULK AT MOST 1048576: true; the input reads as it did. -/
def flowPlaysUptoRow : OpenClaim := { program := "ythmendcdfhlkkaa", sum := "aaaf4f82656274fac55443272fa15fe5dcff3a59bf5485b62274f1fafc4d1d44", func := "busbar/busbarlaw10.FlowPlays", spec := "flowPlays", apart := false, narrowed := true }
def FlowPlaysUptoSaid : Prop := flowPlaysUptoRow.holds Try.pinned (OpenSpec.upto flowPlaysSpec)

/-- 'busbarlaw10.FlowCuts', WHERE WHAT IT READS IS OF BULK AT MOST 1048576: true; the input reads as it did. -/
def flowCutsUptoRow : OpenClaim := { program := "ythmendcdfhlkkaa", sum := "aaaf4f82656274fac55443272fa15fe5dcff3a59bf5485b62274f1fafc4d1d44", func := "busbar/busbarlaw10.FlowCuts", spec := "flowCuts", apart := false, narrowed := true }
def FlowCutsUptoSaid : Prop := flowCutsUptoRow.holds Try.pinned (OpenSpec.upto flowCutsSpec)

/-- 'busbarlaw10.FlowBad', WHERE WHAT IT READS IS OF BULK AT MOST 1048576: true; the input reads as it did. -/
def flowBadUptoRow : OpenClaim := { program := "ythmendcdfhlkkaa", sum := "aaaf4f82656274fac55443272fa15fe5dcff3a59bf5485b62274f1fafc4d1d44", func := "busbar/busbarlaw10.FlowBad", spec := "flowBad", apart := false, narrowed := true }
def FlowBadUptoSaid : Prop := flowBadUptoRow.holds Try.pinned (OpenSpec.upto flowBadSpec)

/-- 'busbarlaw10.FlowRoom', WHERE WHAT IT READS IS OF BULK AT MOST 1048576: true; the input reads as it did. -/
def flowRoomUptoRow : OpenClaim := { program := "ythmendcdfhlkkaa", sum := "aaaf4f82656274fac55443272fa15fe5dcff3a59bf5485b62274f1fafc4d1d44", func := "busbar/busbarlaw10.FlowRoom", spec := "flowRoom", apart := false, narrowed := true }
def FlowRoomUptoSaid : Prop := flowRoomUptoRow.holds Try.pinned (OpenSpec.upto flowRoomSpec)

end Rows
end Go.Proofs.Ythmendcdfhlkkaa

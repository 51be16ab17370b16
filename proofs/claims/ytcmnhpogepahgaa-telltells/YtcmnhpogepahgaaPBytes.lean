/- Package ask: Bytes. -/
import Derived.Test.YtcmnhpogepahgaaPRight2
import Derived.Test.YtcmnhpogepahgaaJTellTells9
import Derived.Test.YtcmnhpogepahgaaAskBytes
namespace Go.Proofs.Ytcmnhpogepahgaa
open Go.ChangeShapes Go.WideShapes Go.ChangeAt Go.RowKit
set_option linter.unusedVariables false
set_option linter.unusedSimpArgs false

theorem pputI (A : Option Addr) (n c : Nat) (zs : List Int) (B : Option Addr) (m d : Nat) (ws : List Int) (w : World) (l : Nat) (ys : List Int) (hl : n + 2 * m = l) (hy : zs ++ flat ws = ys) (hr : Row .u8 w w.heap.size A n zs) (hw : Row .i64 w w.heap.size B m ws) (hx : Words ws) (hn : n ≤ 1000) (hm : m ≤ 1000) (hm0 : 0 < m) :
    Calls Try.prog 50 #[.slice A n c, .slice B m d] w fun e w' => ∃ g, e = .returned (.slice (some ⟨g, 0, none⟩) l l) ∧ Whole .u8 w' g 5 ys ∧ w.heap.size ≤ g ∧ Below w.heap.size w w' := by
  subst hl hy
  exact pput_any A n c zs B m d ws w hr hw hx hn hm hm0
theorem pbytes_of {P : Program} {f : FuncId} {a : Array Value} {w : World} {ys zs : List Int} {n : Nat} (h : Calls P f a w fun e w' => ∃ C cap, e = .returned (.tuple #[.slice C n cap, .int .i64 0]) ∧ w'.ownsRow w.heap.size 5 1 (.slice C n cap) n (ys.map (Value.int .u8)) ∧ Below w.heap.size w w') (hl : ys = zs) (hn : zs.length = n) :
    Calls P f a w fun e w' => ∃ C cap, e = .returned (.tuple #[.slice C zs.length cap, .int .i64 0]) ∧ w'.ownsRow w.heap.size 5 1 (.slice C zs.length cap) zs.length (zs.map (Value.int .u8)) ∧ Below w.heap.size w w' := by
  subst hl hn
  exact h
theorem own_cap {w : World} {base : Nat} {e : TypeId} {A : Option Addr} {n c : Nat} {xs : List Value} (h : w.ownsRow base e 1 (.slice A n c) n xs) : n ≤ c := by
  rcases h.2 with ⟨hv, h0⟩ | ⟨g', cap, cur, hv, _, _, hnc, _⟩
  · omega
  · injection hv with _ _ h3
    omega
end Go.Proofs.Ytcmnhpogepahgaa

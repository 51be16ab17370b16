/- Appending one span, built for it, onto a list of the call's own. No statement is proved here. -/
import Derived.Test.YtlnmdepaobocnaaSpan1
namespace Go.Proofs.Ytlnmdepaobocnaa
open Go.ChangeShapes Go.WideShapes Go.ChangeAt Go.RowKit
set_option linter.unusedVariables false
set_option linter.unusedSimpArgs false

theorem wpList_append_one {X : World} {ops : Array Oper} {rest : List Oper} {o : Oper} {a : Act} {Q : Exit → Act → World → Prop} (hgd : o.guard = none) (s x : Operand)
    (ho : o.op = .call { callee := .builtin .append, args := #[s, x], argTypes := #[24, 24] })
    (base : Nat) (v : Value) (n nm : Nat) (xs ys : List Sp) (hs : a.eval s = v) (hown : SO X base v n xs)
    (t f u : Int) (hnm : n + 1 = nm) (hys : xs ++ [(t, f, u)] = ys) (hx : a.eval x = .slice (some ⟨X.heap.size, 0, none⟩) 1 1) (hm : n + 1 ≤ 1000000) (w0 : World) (hb : Below base w0 X) (hB : base ≤ X.heap.size) (T : TypeId)
    (h : ∀ A' c' w', SO w' base (.slice A' nm c') nm ys → Below base w0 w' → base ≤ w'.heap.size → wpList Try.prog ops Q rest (a.put o.dst (.slice A' nm c')) w') :
    wpList Try.prog ops Q (o :: rest) a (X.alloc (.cells #[.int .i64 t, .int .i64 f, .int .i64 u] T)) := by
  have hk : Below X.heap.size X (X.alloc (.cells #[.int .i64 t, .int .i64 f, .int .i64 u] T)) := (Below.refl _ _).alloc (Nat.le_refl _) _
  refine wpList_append_sps hgd s x ho base v n nm xs ys hs (hown.keep hk) _ 1 1 [(t, f, u)] hnm hys hx (sl_one X t f u T) hm (Nat.le_trans hB hk.size) ?_
  intro A' c' w' h1 h2
  have h3 := below_so (hb.trans (hk.mono hB)) (hown.keep hk) h2 (Nat.le_trans hB hk.size)
  refine h A' c' w' h1 h3 ?_
  exact Nat.le_trans (Nat.le_trans hB hk.size) h2.size
end Go.Proofs.Ytlnmdepaobocnaa

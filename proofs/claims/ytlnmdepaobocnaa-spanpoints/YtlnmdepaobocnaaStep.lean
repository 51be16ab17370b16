/- Append at a step of a region that draws its order: onto a row of the call's own, whatever the source. No statement is proved here. -/
import Derived.Test.YtlnmdepaobocnaaGen
import Derived.Deep.RegionHeld3
namespace Go.Proofs.Ytlnmdepaobocnaa
open Go.ChangeShapes Go.WideShapes Go.ChangeAt Go.RowKit
set_option linter.unusedVariables false
set_option linter.unusedSimpArgs false

theorem size_put (a : Act) (dst : Option Tmp) (v : Value) : (a.put dst v).tmps.size = a.tmps.size := by cases dst <;> simp [Act.put]
theorem eval_put_tmp (a : Act) (d t : Nat) (v : Value) : (a.put (some d) v).eval (.tmp t) = if t = d ∧ d < a.tmps.size then v else a.eval (.tmp t) := by
  unfold Act.put Act.eval
  by_cases h : t = d
  · subst h
    by_cases h2 : t < a.tmps.size
    · simp [h2]
    · simp [h2]
  · simp [h, Array.getD_eq_getD_getElem?, Array.getElem?_setIfInBounds, Ne.symm h]

theorem step_append_row {P : Program} {w : World} {ops : Array Oper} {o : Oper} {a : Act} {K : Act → World → Prop} {Q : Exit → Act → World → Prop} {E : Prop} (s x : Operand) (t : TypeId)
    (base : Nat) (e : TypeId) (z : Value) (bytes : Nat) (ht : P.underlying t = some (.slice e)) (hi : (P.info? e).map (fun i => (i.zero, i.size, i.bytes)) = some (some z, 1, bytes)) (hzs : z.cells.size = 1)
    (v : Value) (n : Nat) (xs : List Value) (m : Nat) (vs : List Value) (h1 : ∀ u ∈ vs, u.oneCell' = true) (hm : n + m ≤ 1000000) (hby : bytes ≤ 1000)
    (ho : o.guard = none ∧ o.op = .call { callee := .builtin .append, args := #[s, x], argTypes := #[t, t] } ∧ a.eval s = v)
    (hown : w.ownsRow base e 1 v n xs) (hr : ∃ A c, a.eval x = .slice A m c ∧ RowV w w.heap.size A m vs) (hbase : base ≤ w.heap.size)
    (h : ∀ A' c' w', w'.ownsRow base e 1 (.slice A' (n + m) c') (n + m) (xs ++ vs) → w.grownBy w' v.ownBlock → K (a.put o.dst (.slice A' (n + m) c')) w') :
    if Region.wanted o (yielded ops a.tmps) = true then Oper.wp P o a w K Q else E := by
  obtain ⟨hgd, hop, hs⟩ := ho
  obtain ⟨A, c, hx, hr⟩ := hr
  have hw : Region.wanted o (yielded ops a.tmps) = true := by simp [Region.wanted, hgd]
  rw [if_pos hw]
  obtain ⟨v', w', hrun, h2, h3, h4⟩ := run_append_row (P := P) w base t o.type e z bytes ht hi hzs v n xs hown w.heap.size A m c vs hr h1 hm hby hbase
  obtain ⟨A', c', rfl⟩ := own_slice h2
  unfold Oper.wp execOp
  simp only [hop, resolve, invoke, builtin, Sem.run_bind, Sem.run_pure, Result.andThen_ok, List.map_toArray, List.map_cons, List.map_nil, hs, hx, hrun]
  exact h A' c' w' h2 h3

/-- The same, with what comes out named. -/
theorem step_append_to {P : Program} {w : World} {ops : Array Oper} {o : Oper} {a : Act} {K : Act → World → Prop} {Q : Exit → Act → World → Prop} {E : Prop} (s x : Operand) (t : TypeId)
    (base : Nat) (e : TypeId) (z : Value) (bytes : Nat) (ht : P.underlying t = some (.slice e)) (hi : (P.info? e).map (fun i => (i.zero, i.size, i.bytes)) = some (some z, 1, bytes)) (hzs : z.cells.size = 1)
    (v : Value) (n : Nat) (xs : List Value) (m : Nat) (vs : List Value) (nm : Nat) (ys : List Value) (hnm : n + m = nm) (hys : xs ++ vs = ys) (h1 : ∀ u ∈ vs, u.oneCell' = true) (hm : n + m ≤ 1000000) (hby : bytes ≤ 1000)
    (ho : o.guard = none ∧ o.op = .call { callee := .builtin .append, args := #[s, x], argTypes := #[t, t] } ∧ a.eval s = v)
    (hown : w.ownsRow base e 1 v n xs) (hr : ∃ A c, a.eval x = .slice A m c ∧ RowV w w.heap.size A m vs) (hbase : base ≤ w.heap.size)
    (h : ∀ A' c' w', w'.ownsRow base e 1 (.slice A' nm c') nm ys → w.grownBy w' v.ownBlock → K (a.put o.dst (.slice A' nm c')) w') :
    if Region.wanted o (yielded ops a.tmps) = true then Oper.wp P o a w K Q else E := by
  subst hnm hys
  exact step_append_row s x t base e z bytes ht hi hzs v n xs m vs h1 hm hby ho hown hr hbase h

/-- A row of the call's own, in a world that kept it. -/
theorem own_keep {w w' : World} {b : Nat} {e : TypeId} {v : Value} {n : Nat} {xs : List Value} (h : w.ownsRow b e 1 v n xs) (hb : Below w.heap.size w w') : w'.ownsRow b e 1 v n xs := by
  refine ⟨h.1, ?_⟩
  rcases h.2 with h0 | ⟨g, cap, cur, hv, hg, hh, rest⟩
  · exact .inl h0
  · refine .inr ⟨g, cap, cur, hv, hg, (hb.block g ?_).trans hh, rest⟩
    rcases Nat.lt_or_ge g w.heap.size with hlt | hge
    · exact hlt
    · rw [Array.getElem?_eq_none hge] at hh; cases hh
theorem own_of_whole {w : World} {g B : Nat} {t : TypeId} {vs : List Value} {n : Nat} (h : WholeV w g t vs) (hb : B ≤ g) (hl : vs.length = n) (hm : n ≤ 100000) : w.ownsRow B t 1 (.slice (some ⟨g, 0, none⟩) n n) n vs := by
  refine ⟨by simp [hl], .inr ⟨g, n, _, rfl, hb, h, Nat.le_refl _, by unfold maxLen; omega, by simp [hl], ?_⟩⟩
  exact List.take_of_length_le (by simp [hl])
theorem own_mono {w : World} {b b' : Nat} {e : TypeId} {v : Value} {n : Nat} {xs : List Value} (h : w.ownsRow b e 1 v n xs) (hb : b' ≤ b) : w.ownsRow b' e 1 v n xs := by
  refine ⟨h.1, ?_⟩
  rcases h.2 with h0 | ⟨g, cap, cur, hv, hg, rest⟩
  · exact .inl h0
  · exact .inr ⟨g, cap, cur, hv, Nat.le_trans hb hg, rest⟩
/-- A slice that was built, behind whatever kept it. -/
theorem built_row (X W : World) (vs : List Value) (T : TypeId) (h : Below (X.alloc (.cells vs.toArray T)).heap.size (X.alloc (.cells vs.toArray T)) W) : RowV W W.heap.size (some ⟨X.heap.size, 0, none⟩) vs.length vs := by
  have h0 : WholeV (X.alloc (.cells vs.toArray T)) X.heap.size T vs := heap_alloc_new X _
  exact (h0.row.below h).more h.size

end Go.Proofs.Ytlnmdepaobocnaa

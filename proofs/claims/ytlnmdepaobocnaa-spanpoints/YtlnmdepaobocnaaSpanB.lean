/- Appending one span onto a row of the call's own: all other rows and boxes stay. No statement is proved here. -/
import Derived.Test.YtlnmdepaobocnaaSpanA
import Derived.Maps.RangeWalk
namespace Go.Proofs.Ytlnmdepaobocnaa
open Go.ChangeShapes Go.WideShapes Go.ChangeAt Go.RowKit
set_option linter.unusedVariables false
set_option linter.unusedSimpArgs false

theorem SO.lt {w : World} {b n : Nat} {v : Value} {l : List Sp} (h : SO w b v n l) : ∀ g, v.ownBlock = some g → b ≤ g ∧ g < w.heap.size := by
  intro g hg
  refine ⟨h.ge g hg, ?_⟩
  rcases h.2 with ⟨rfl, _⟩ | ⟨g', cap, cur, rfl, hb, hh, _⟩
  · simp [Value.ownBlock] at hg
  · have e : g' = g := by simpa [Value.ownBlock] using hg
    subst e
    rcases Nat.lt_or_ge g' w.heap.size with hlt | hge
    · exact hlt
    · rw [Array.getElem?_eq_none hge] at hh; cases hh
theorem SO.off {w : World} {b n : Nat} {v : Value} {l : List Sp} (h : SO w b v n l) (g : Nat) (hg : g < b ∨ w.heap.size ≤ g) : some g ≠ v.ownBlock := by
  intro e
  have := h.lt g e.symm
  omega
/-- Two rows that share no block. -/
def Apart (u v : Value) : Prop := ∀ g, u.ownBlock = some g → v.ownBlock ≠ some g
theorem Apart.symm {u v : Value} (h : Apart u v) : Apart v u := fun g h1 h2 => h g h2 h1
theorem apart_nil (v : Value) : Apart (.slice none 0 0) v := fun g h => by simp [Value.ownBlock] at h
theorem SO.apart {w w' : World} {b n : Nat} {u v : Value} {l : List Sp} (h : SO w b u n l) (hg : w.grownBy w' v.ownBlock) (ha : Apart u v) : SO w' b u n l := by
  refine World.ownsRow.kept h hg ?_
  cases hu : u.ownBlock with
  | none => exact .inl rfl
  | some g => exact .inr fun e => ha g hu e.symm
theorem apart_new {w : World} {b n : Nat} {u u' v : Value} {l : List Sp} (h : SO w b v n l) (ha : Apart u v) (hq : ∀ g, u'.ownBlock = some g → u.ownBlock = some g ∨ w.heap.size ≤ g) : Apart u' v := fun g h1 h2 => by
  rcases hq g h1 with h3 | h3
  · exact ha g h3 h2
  · have := (h.lt g h2).2
    omega
theorem whole_grown {w w' : World} {g : Nat} {T : TypeId} {vs : List Value} {row : Option Nat} (h : WholeV w g T vs) (hg : w.grownBy w' row) (hne : some g ≠ row) : WholeV w' g T vs := by
  unfold WholeV at h ⊢
  rw [← h]
  exact hg.block g (by rcases Nat.lt_or_ge g w.heap.size with hlt | hge; exact hlt; rw [Array.getElem?_eq_none hge] at h; cases h) hne

set_option maxRecDepth 100000 in
theorem wpList_append_keep {X : World} {ops : Array Oper} {rest : List Oper} {o : Oper} {a : Act} {Q : Exit → Act → World → Prop} (hgd : o.guard = none) (s x : Operand)
    (ho : o.op = .call { callee := .builtin .append, args := #[s, x], argTypes := #[24, 24] })
    (base : Nat) (v : Value) (n nm : Nat) (xs ys : List Sp) (hs : a.eval s = v) (hown : SO X base v n xs)
    (t f u : Int) (hnm : n + 1 = nm) (hys : xs ++ [(t, f, u)] = ys) (g0 : Nat) (hx : a.eval x = .slice (some ⟨g0, 0, none⟩) 1 1) (hg0 : g0 = X.heap.size) (hm : n + 1 ≤ 1000000) (hB : base ≤ X.heap.size) (T : TypeId)
    (h : ∀ A' c' w', SO w' base (.slice A' nm c') nm ys → X.grownBy w' v.ownBlock → (∀ g, (Value.slice A' nm c').ownBlock = some g → v.ownBlock = some g ∨ X.heap.size ≤ g) → wpList Try.prog ops Q rest (a.put o.dst (.slice A' nm c')) w') :
    wpList Try.prog ops Q (o :: rest) a (X.alloc (.cells #[.int .i64 t, .int .i64 f, .int .i64 u] T)) := by
  subst hnm hys hg0
  have hk : Below X.heap.size X (X.alloc (.cells #[.int .i64 t, .int .i64 f, .int .i64 u] T)) := (Below.refl _ _).alloc (Nat.le_refl _) _
  refine wpList_plain hgd fun _ hK => ?_
  obtain ⟨i0, hi0, hz0, hz1, hz2⟩ := info_parts infoS
  have ht := Try.underlying24
  have hone := sl_one X t f u T
  have hcells : ∀ j y, (sps [(t, f, u)])[j]? = some y → (X.alloc (.cells #[.int .i64 t, .int .i64 f, .int .i64 u] T)).cell? ((⟨X.heap.size, 0, none⟩ : Addr).add j) = some y := by
    intro j y hy
    have hj : j < (sps [(t, f, u)]).length := (List.getElem?_eq_some_iff.1 hy).1
    obtain ⟨b, off, h, _, hc⟩ := hone.2 (by omega)
    injection h with h
    rw [h, add_none, hc j (by simpa [sps] using hj)]
    exact hy
  obtain ⟨v', w', hrun, h2, h3, _, h5⟩ := run_append_own_at (P := Try.prog) (X.alloc (.cells #[.int .i64 t, .int .i64 f, .int .i64 u] T)) base 24 o.type 23 i0 _ 3 24 ht hi0 hz0 hz1 hz2 rfl (by decide) v n (sps xs) (hown.keep hk) ⟨X.heap.size, 0, none⟩ 1 1 (sps [(t, f, u)]) (by simp [sps]) hcells (sps_one _) (by simp only [maxLen]; omega) (by omega) (Nat.le_trans hB hk.size)
  have h2' : SO w' base v' (n + 1) (xs ++ [(t, f, u)]) := by unfold SO; rw [sps_append]; exact h2
  obtain ⟨A', c', rfl⟩ := h2'.slice
  unfold Oper.wp execOp
  simp only [ho, resolve, invoke, builtin, Sem.run_bind, Sem.run_pure, Result.andThen_ok, List.map_toArray, List.map_cons, List.map_nil, hs, hx, hrun]
  refine hK _ _ (h A' c' w' h2' ((World.grownBy_alloc X _ _).trans h3) fun g hg => ?_)
  rcases h5 with h5 | h5
  · exact .inl (h5.symm.trans hg)
  · refine .inr ?_
    rw [h5] at hg
    injection hg with hg
    simp at hg
    omega
end Go.Proofs.Ytlnmdepaobocnaa

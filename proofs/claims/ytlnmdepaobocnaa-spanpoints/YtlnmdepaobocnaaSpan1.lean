/- Lists of spans in memory: three ints each. What is read, kept, made, appended. No statement is proved here. -/
import Derived.Test.YtlnmdepaobocnaaSMath
import Derived.Test.YtlnmdepaobocnaaStep
namespace Go.Proofs.Ytlnmdepaobocnaa
open Go.ChangeShapes Go.WideShapes Go.ChangeAt Go.RowKit
set_option linter.unusedVariables false
set_option linter.unusedSimpArgs false

def sp0 : Sp := (0, 0, 0)
def sps (l : List Sp) : List Value := l.flatMap fun s => [.int .i64 s.1, .int .i64 s.2.1, .int .i64 s.2.2]
theorem sps_cons (s : Sp) (l : List Sp) : sps (s :: l) = .int .i64 s.1 :: .int .i64 s.2.1 :: .int .i64 s.2.2 :: sps l := rfl
theorem sps_append (l m : List Sp) : sps (l ++ m) = sps l ++ sps m := by simp [sps]
theorem sps_length (l : List Sp) : (sps l).length = 3 * l.length := by
  induction l with
  | nil => rfl
  | cons s l ih => rw [sps_cons, List.length_cons, List.length_cons, List.length_cons, List.length_cons, ih]; omega
theorem sps_at (l : List Sp) (k : Nat) (h : k < l.length) : (sps l)[3 * k]? = some (.int .i64 (l.getD k sp0).1) ∧ (sps l)[3 * k + 1]? = some (.int .i64 (l.getD k sp0).2.1) ∧ (sps l)[3 * k + 2]? = some (.int .i64 (l.getD k sp0).2.2) := by
  induction l generalizing k with
  | nil => simp at h
  | cons s l ih =>
    cases k with
    | zero => exact ⟨rfl, rfl, rfl⟩
    | succ k =>
      obtain ⟨h1, h2, h3⟩ := ih k (by simpa using h)
      rw [sps_cons, show 3 * (k + 1) = 3 * k + 1 + 1 + 1 by omega, show 3 * k + 1 + 1 + 1 + 1 = (3 * k + 1) + 1 + 1 + 1 by omega, show 3 * k + 1 + 1 + 1 + 2 = (3 * k + 2) + 1 + 1 + 1 by omega]
      simp only [List.getElem?_cons_succ]
      exact ⟨h1, h2, h3⟩
theorem sps_one (l : List Sp) : ∀ u ∈ sps l, u.oneCell' = true := by
  intro u hu
  obtain ⟨s, _, hs⟩ := List.mem_flatMap.1 hu
  simp at hs
  rcases hs with rfl | rfl | rfl <;> rfl
theorem sps_take (l : List Sp) (k : Nat) : sps (l.take k) = (sps l).take (3 * k) := by
  induction l generalizing k with
  | nil => simp [sps]
  | cons s l ih =>
    cases k with
    | zero => rfl
    | succ k => rw [List.take_succ_cons, sps_cons, sps_cons, show 3 * (k + 1) = 3 * k + 1 + 1 + 1 by omega, List.take_succ_cons, List.take_succ_cons, List.take_succ_cons, ih]
theorem sps_drop (l : List Sp) (k : Nat) : sps (l.drop k) = (sps l).drop (3 * k) := by
  induction l generalizing k with
  | nil => simp [sps]
  | cons s l ih =>
    cases k with
    | zero => rfl
    | succ k => rw [List.drop_succ_cons, sps_cons, show 3 * (k + 1) = 3 * k + 1 + 1 + 1 by omega, List.drop_succ_cons, List.drop_succ_cons, List.drop_succ_cons, ih]

/-- A slice of n spans, which are these. -/
def SL (w : World) (A : Option Addr) (n : Nat) (l : List Sp) : Prop := RowV w w.heap.size A (3 * n) (sps l)
section
variable {w w' : World} {A : Option Addr} {n : Nat} {l : List Sp}
theorem SL.len (h : SL w A n l) : l.length = n := by
  have := h.1
  rw [sps_length] at this
  omega
theorem SL.below (h : SL w A n l) (hb : Below w.heap.size w w') : SL w' A n l := (RowV.below h hb).more hb.size
theorem SL.nil : SL w A 0 [] := RowV.nil
theorem SL.at_ (h : SL w A n l) (k : Nat) (hk : k < n) : ∃ b off, A = some ⟨b, off, none⟩ ∧ b < w.heap.size ∧ w.cell? ⟨b, off + k * 3, none⟩ = some (.int .i64 (l.getD k sp0).1) ∧ w.cell? ⟨b, off + k * 3 + 1, none⟩ = some (.int .i64 (l.getD k sp0).2.1) ∧ w.cell? ⟨b, off + k * 3 + 2, none⟩ = some (.int .i64 (l.getD k sp0).2.2) := by
  obtain ⟨b, off, hA, hb, hc⟩ := h.2 (by omega)
  have hl := h.len
  obtain ⟨h1, h2, h3⟩ := sps_at l k (by omega)
  refine ⟨b, off, hA, hb, ?_, ?_, ?_⟩
  · rw [Nat.mul_comm k 3, hc _ (by omega)]; exact h1
  · rw [Nat.mul_comm k 3, Nat.add_assoc, hc _ (by omega)]; exact h2
  · rw [Nat.mul_comm k 3, Nat.add_assoc, hc _ (by omega)]; exact h3
end
theorem sl_one (X : World) (t f u : Int) (T : TypeId) : SL (X.alloc (.cells #[.int .i64 t, .int .i64 f, .int .i64 u] T)) (some ⟨X.heap.size, 0, none⟩) 1 [(t, f, u)] := by
  have h0 : WholeV (X.alloc (.cells #[.int .i64 t, .int .i64 f, .int .i64 u] T)) X.heap.size T [.int .i64 t, .int .i64 f, .int .i64 u] := heap_alloc_new X _
  exact h0.row

theorem infoS : (Try.prog.info? 23).map (fun i => (i.zero, i.size, i.bytes)) = some (some (.agg #[.int .i64 0, .int .i64 0, .int .i64 0]), 3, 24) := by kernel_rfl
/-- A row of spans of the call's own. -/
def SO (w : World) (base : Nat) (v : Value) (n : Nat) (l : List Sp) : Prop := w.ownsRow base 23 3 v n (sps l)
section
variable {w w' : World} {base b b' n : Nat} {v : Value} {l : List Sp}
theorem SO.nil (w : World) (base : Nat) : SO w base (.slice none 0 0) 0 [] := ⟨by simp [sps], .inl ⟨rfl, rfl⟩⟩
theorem SO.slice (h : SO w base v n l) : ∃ A c, v = .slice A n c := by
  rcases h.2 with ⟨rfl, rfl⟩ | ⟨g', cap, cur, rfl, hb, _⟩
  · exact ⟨none, 0, rfl⟩
  · exact ⟨_, _, rfl⟩
theorem SO.ge (h : SO w base v n l) : ∀ g, v.ownBlock = some g → base ≤ g := by
  intro g hg
  rcases h.2 with ⟨rfl, _⟩ | ⟨g', cap, cur, rfl, hb, _⟩
  · simp [Value.ownBlock] at hg
  · have : g' = g := by simpa [Value.ownBlock] using hg
    omega
theorem SO.keep (h : SO w b v n l) (hb : Below w.heap.size w w') : SO w' b v n l := by
  refine ⟨h.1, ?_⟩
  rcases h.2 with h0 | ⟨g, cap, cur, hv, hg, hh, rest⟩
  · exact .inl h0
  · refine .inr ⟨g, cap, cur, hv, hg, (hb.block g ?_).trans hh, rest⟩
    rcases Nat.lt_or_ge g w.heap.size with hlt | hge
    · exact hlt
    · rw [Array.getElem?_eq_none hge] at hh; cases hh
theorem SO.mono (h : SO w b v n l) (hb : b' ≤ b) : SO w b' v n l := by
  refine ⟨h.1, ?_⟩
  rcases h.2 with h0 | ⟨g, cap, cur, hv, hg, rest⟩
  · exact .inl h0
  · exact .inr ⟨g, cap, cur, hv, Nat.le_trans hb hg, rest⟩
theorem SO.len (h : SO w base v n l) : l.length = n := by
  have := h.1
  rw [sps_length] at this
  omega
theorem SO.sl {A : Option Addr} {c : Nat} (h : SO w base (.slice A n c) n l) : SL w A n l := by
  have hl := h.1
  rcases h.2 with ⟨hv, h0⟩ | ⟨k, cap, cur, hv, hb, hh, hnc, _, hcs, ht⟩
  · subst h0
    obtain rfl : l = [] := List.eq_nil_of_length_eq_zero h.len
    exact RowV.nil
  · injection hv with h1 h2 h3
    subst h1 h3
    have hk : k < w.heap.size := by
      rcases Nat.lt_or_ge k w.heap.size with hlt | hge
      · exact hlt
      · rw [Array.getElem?_eq_none hge] at hh; cases hh
    refine ⟨by omega, fun h0 => ⟨k, 0, rfl, hk, fun j hj => ?_⟩⟩
    rw [Nat.zero_add, cell_of_row w k j _ _ _ hh]
    have h1 : (List.take (n * 3) cur.toList)[j]? = (sps l)[j]? := by rw [ht]
    rw [List.getElem?_take, if_pos (by omega)] at h1
    rw [← Array.getElem?_toList, h1]
theorem SO.cap {A : Option Addr} {c : Nat} (h : SO w base (.slice A n c) n l) : n ≤ c := by
  rcases h.2 with ⟨h1, h2⟩ | ⟨g', cap, cur, h1, hb, hh, hnc, _⟩
  · omega
  · injection h1 with _ _ h3
    omega
theorem below_so {B : Nat} {w0 : World} (hb : Below B w0 w) (h : SO w B v n l) (hg : w.grownBy w' v.ownBlock) (hB : B ≤ w.heap.size) : Below B w0 w' := hb.grown hg hB h.ge
end

set_option maxRecDepth 100000 in
/-- append of a list of spans onto one of the call's own. -/
theorem run_append_sps (w : World) (base : Nat) (ty : TypeId) (v : Value) (n : Nat) (xs : List Sp) (hown : SO w base v n xs)
    (A : Option Addr) (m c : Nat) (os : List Sp) (hr : SL w A m os) (hm : n + m ≤ 1000000) (hbase : base ≤ w.heap.size) :
    ∃ v' w', (Builtin.append_ #[24, 24] ty #[v, .slice A m c]).run Try.prog w = .ok v' w' ∧ SO w' base v' (n + m) (xs ++ os) ∧ w.grownBy w' v.ownBlock := by
  obtain ⟨i0, hi0, hz0, hz1, hz2⟩ := info_parts infoS
  have ht := Try.underlying24
  rcases A with _ | ad
  · have h0 : m = 0 := by
      rcases Nat.eq_zero_or_pos m with h0 | h0
      · exact h0
      · obtain ⟨b, off, h, _⟩ := hr.2 (by omega)
        cases h
    subst h0
    obtain rfl : os = [] := List.eq_nil_of_length_eq_zero hr.len
    refine ⟨v, w, ?_, (by rw [List.append_nil]; exact hown), World.grownBy.refl w _⟩
    rcases hown.2 with ⟨rfl, rfl⟩ | ⟨g, cap, cur, rfl, _, _, hnc, _⟩
    · simp [Builtin.append_, run_underlying ht, sizeOf, typeInfo, hi0, Builtin.lenOf, Builtin.firstCells]
    · simp [Builtin.append_, run_underlying ht, sizeOf, typeInfo, hi0, Builtin.lenOf, Builtin.firstCells, hnc, storeCells]
  · have hcells : ∀ j u, (sps os)[j]? = some u → w.cell? (ad.add j) = some u := by
      intro j u hu
      have hj : j < (sps os).length := (List.getElem?_eq_some_iff.1 hu).1
      rw [sps_length, hr.len] at hj
      obtain ⟨b, off, h, _, hc⟩ := hr.2 (by omega)
      injection h with h
      subst h
      rw [add_none, hc j hj]
      exact hu
    obtain ⟨v', w', hrun, h2, h3, _, h5⟩ := run_append_own_at (P := Try.prog) w base 24 ty 23 i0 _ 3 24 ht hi0 hz0 hz1 hz2 rfl (by decide) v n (sps xs) hown ad m c (sps os) (by rw [sps_length, hr.len]; omega) hcells (sps_one _) (by simp only [maxLen]; omega) (by omega) hbase
    exact ⟨v', w', hrun, by unfold SO; rw [sps_append]; exact h2, h3⟩
set_option maxRecDepth 100000 in
theorem wpList_append_sps {w : World} {ops : Array Oper} {rest : List Oper} {o : Oper} {a : Act} {Q : Exit → Act → World → Prop} (hgd : o.guard = none) (s x : Operand)
    (ho : o.op = .call { callee := .builtin .append, args := #[s, x], argTypes := #[24, 24] })
    (base : Nat) (v : Value) (n nm : Nat) (xs ys : List Sp) (hs : a.eval s = v) (hown : SO w base v n xs)
    (A : Option Addr) (m c : Nat) (os : List Sp) (hnm : n + m = nm) (hys : xs ++ os = ys) (hx : a.eval x = .slice A m c) (hr : SL w A m os) (hm : n + m ≤ 1000000) (hbase : base ≤ w.heap.size)
    (h : ∀ A' c' w', SO w' base (.slice A' nm c') nm ys → w.grownBy w' v.ownBlock → wpList Try.prog ops Q rest (a.put o.dst (.slice A' nm c')) w') : wpList Try.prog ops Q (o :: rest) a w := by
  subst hnm hys
  refine wpList_plain hgd fun _ hK => ?_
  obtain ⟨v', w', hrun, h2, h3⟩ := run_append_sps w base o.type v n xs hown A m c os hr hm hbase
  obtain ⟨A', c', rfl⟩ := h2.slice
  unfold Oper.wp execOp
  simp only [ho, resolve, invoke, builtin, Sem.run_bind, Sem.run_pure, Result.andThen_ok, List.map_toArray, List.map_cons, List.map_nil, hs, hx, hrun]
  exact hK _ _ (h A' c' w' h2 h3)
/-- The same as a step of a region that draws its order. -/
theorem step_append_sps {w : World} {ops : Array Oper} {o : Oper} {a : Act} {K : Act → World → Prop} {Q : Exit → Act → World → Prop} {E : Prop} (s x : Operand)
    (base : Nat) (v : Value) (n m nm : Nat) (xs os ys : List Sp) (hnm : n + m = nm) (hys : xs ++ os = ys) (hm : n + m ≤ 1000000)
    (ho : o.guard = none ∧ o.op = .call { callee := .builtin .append, args := #[s, x], argTypes := #[24, 24] } ∧ a.eval s = v)
    (hown : SO w base v n xs) (hr : ∃ A c, a.eval x = .slice A m c ∧ SL w A m os) (hbase : base ≤ w.heap.size)
    (h : ∀ A' c' w', SO w' base (.slice A' nm c') nm ys → w.grownBy w' v.ownBlock → K (a.put o.dst (.slice A' nm c')) w') :
    if Region.wanted o (yielded ops a.tmps) = true then Oper.wp Try.prog o a w K Q else E := by
  subst hnm hys
  obtain ⟨hgd, hop, hs⟩ := ho
  obtain ⟨A, c, hx, hr⟩ := hr
  have hw : Region.wanted o (yielded ops a.tmps) = true := by simp [Region.wanted, hgd]
  rw [if_pos hw]
  obtain ⟨v', w', hrun, h2, h3⟩ := run_append_sps w base o.type v n xs hown A m c os hr hm hbase
  obtain ⟨A', c', rfl⟩ := h2.slice
  unfold Oper.wp execOp
  simp only [hop, resolve, invoke, builtin, Sem.run_bind, Sem.run_pure, Result.andThen_ok, List.map_toArray, List.map_cons, List.map_nil, hs, hx, hrun]
  exact h A' c' w' h2 h3

end Go.Proofs.Ytlnmdepaobocnaa

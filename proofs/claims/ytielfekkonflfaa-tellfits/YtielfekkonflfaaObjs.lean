/- Lists of objects: an Id and a Value each. What is read, kept, made, appended. No statement is proved here. -/
import Derived.Test.YtielfekkonflfaaStep
namespace Go.Proofs.Ytielfekkonflfaa
open Go.ChangeShapes Go.WideShapes Go.ChangeAt Go.RowKit
set_option linter.unusedVariables false
set_option linter.unusedSimpArgs false

/-- An object: its Id, its Value. -/
abbrev Ob := Int × ByteArray
def ob0 : Ob := (0, ByteArray.empty)
/-- Its cells. -/
def obs (os : List Ob) : List Value := os.flatMap fun o => [.int .i64 o.1, .string o.2]
theorem obs_cons (o : Ob) (os : List Ob) : obs (o :: os) = .int .i64 o.1 :: .string o.2 :: obs os := rfl
theorem obs_append (os ps : List Ob) : obs (os ++ ps) = obs os ++ obs ps := by simp [obs]
theorem obs_length (os : List Ob) : (obs os).length = 2 * os.length := by
  induction os with
  | nil => rfl
  | cons o os ih => rw [obs_cons, List.length_cons, List.length_cons, List.length_cons, ih]; omega
theorem obs_id (os : List Ob) (k : Nat) (h : k < os.length) : (obs os)[2 * k]? = some (.int .i64 (os.getD k ob0).1) := by
  induction os generalizing k with
  | nil => simp at h
  | cons o os ih =>
    cases k with
    | zero => rfl
    | succ k =>
      rw [obs_cons, show 2 * (k + 1) = 2 * k + 1 + 1 by omega, List.getElem?_cons_succ, List.getElem?_cons_succ, ih k (by simpa using h)]
      rfl
theorem obs_val (os : List Ob) (k : Nat) (h : k < os.length) : (obs os)[2 * k + 1]? = some (.string (os.getD k ob0).2) := by
  induction os generalizing k with
  | nil => simp at h
  | cons o os ih =>
    cases k with
    | zero => rfl
    | succ k =>
      rw [obs_cons, show 2 * (k + 1) + 1 = 2 * k + 1 + 1 + 1 by omega, List.getElem?_cons_succ, List.getElem?_cons_succ, ih k (by simpa using h)]
      rfl
theorem obs_one (os : List Ob) : ∀ u ∈ obs os, u.oneCell' = true := by
  intro u hu
  obtain ⟨o, _, ho⟩ := List.mem_flatMap.1 hu
  simp at ho
  rcases ho with rfl | rfl <;> rfl
theorem obs_take (os : List Ob) (k : Nat) : obs (os.take k) = (obs os).take (2 * k) := by
  induction os generalizing k with
  | nil => simp [obs]
  | cons o os ih =>
    cases k with
    | zero => rfl
    | succ k => rw [List.take_succ_cons, obs_cons, obs_cons, show 2 * (k + 1) = 2 * k + 1 + 1 by omega, List.take_succ_cons, List.take_succ_cons, ih]
theorem obs_drop (os : List Ob) (k : Nat) : obs (os.drop k) = (obs os).drop (2 * k) := by
  induction os generalizing k with
  | nil => simp [obs]
  | cons o os ih =>
    cases k with
    | zero => rfl
    | succ k => rw [List.drop_succ_cons, obs_cons, show 2 * (k + 1) = 2 * k + 1 + 1 by omega, List.drop_succ_cons, List.drop_succ_cons, ih]

/-- A slice of n objects, which are these; it lies below block B. -/
def OL (w : World) (B : Nat) (A : Option Addr) (n : Nat) (os : List Ob) : Prop := RowV w B A (2 * n) (obs os)

section
variable {w w' : World} {B B' : Nat} {A : Option Addr} {n : Nat} {os : List Ob}
theorem OL.len (h : OL w B A n os) : os.length = n := by
  have := h.1
  rw [obs_length] at this
  omega
theorem OL.below (h : OL w w.heap.size A n os) (hb : Below w.heap.size w w') : OL w' w'.heap.size A n os := (RowV.below h hb).more hb.size
theorem OL.at_ (h : OL w B A n os) (k : Nat) (hk : k < n) : ∃ b off, A = some ⟨b, off, none⟩ ∧ b < B ∧ w.cell? ⟨b, off + k * 2, none⟩ = some (.int .i64 (os.getD k ob0).1) ∧ w.cell? ⟨b, off + k * 2 + 1, none⟩ = some (.string (os.getD k ob0).2) := by
  obtain ⟨b, off, hA, hb, hc⟩ := h.2 (by omega)
  have hl := h.len
  refine ⟨b, off, hA, hb, ?_, ?_⟩
  · rw [Nat.mul_comm k 2, hc _ (by omega), obs_id _ _ (by omega)]
  · rw [Nat.mul_comm k 2, Nat.add_assoc, hc _ (by omega), obs_val _ _ (by omega)]
theorem OL.nil : OL w B A 0 [] := RowV.nil
end

theorem infoO : (Try.prog.info? 57).map (fun i => (i.zero, i.size, i.bytes)) = some (some (.agg #[.int .i64 0, .string ByteArray.empty]), 2, 24) := by kernel_rfl
/-- A row of the call's own, as a list of objects. -/
theorem ol_of_own {w : World} {base : Nat} {e : TypeId} {A : Option Addr} {n c : Nat} {os : List Ob} (h : w.ownsRow base e 2 (.slice A n c) n (obs os)) : OL w w.heap.size A n os := by
  have hl := h.1
  refine ⟨by omega, fun h0 => ?_⟩
  rcases h.2 with ⟨_, h0⟩ | ⟨g, cap, cur, hv, hb, hh, hnc, _, hcs, ht⟩
  · omega
  · injection hv with h1 h2 h3
    subst h1 h3
    refine ⟨g, 0, rfl, ?_, fun j hj => ?_⟩
    · rcases Nat.lt_or_ge g w.heap.size with hlt | hge
      · exact hlt
      · rw [Array.getElem?_eq_none hge] at hh; cases hh
    · rw [Nat.zero_add, cell_of_row w g j _ _ _ hh]
      have h1 : (List.take (n * 2) cur.toList)[j]? = (obs os)[j]? := by rw [ht]
      rw [List.getElem?_take, if_pos (by omega)] at h1
      rw [← Array.getElem?_toList, h1]
theorem own2_slice {w : World} {base : Nat} {e : TypeId} {v : Value} {n : Nat} {xs : List Value} (h : w.ownsRow base e 2 v n xs) : ∃ A c, v = .slice A n c := by
  rcases h.2 with ⟨rfl, rfl⟩ | ⟨g', cap, cur, rfl, hb, _⟩
  · exact ⟨none, 0, rfl⟩
  · exact ⟨_, _, rfl⟩
theorem own2_ge {w : World} {base : Nat} {e : TypeId} {v : Value} {n : Nat} {xs : List Value} (h : w.ownsRow base e 2 v n xs) : ∀ g, v.ownBlock = some g → base ≤ g := by
  intro g hg
  rcases h.2 with ⟨rfl, _⟩ | ⟨g', cap, cur, rfl, hb, _⟩
  · simp [Value.ownBlock] at hg
  · have : g' = g := by simpa [Value.ownBlock] using hg
    omega
theorem own2_cap {w : World} {base : Nat} {e : TypeId} {A : Option Addr} {n c : Nat} {xs : List Value} (h : w.ownsRow base e 2 (.slice A n c) n xs) : n ≤ c := by
  rcases h.2 with ⟨h1, h2⟩ | ⟨g', cap, cur, h1, hb, hh, hnc, _⟩
  · omega
  · injection h1 with _ _ h3
    omega
theorem below_append2 {B : Nat} {w w0 w' : World} {e : TypeId} {v : Value} {n : Nat} {xs : List Value} (hb : Below B w0 w) (h : w.ownsRow B e 2 v n xs) (hg : w.grownBy w' v.ownBlock) (hB : B ≤ w.heap.size) : Below B w0 w' := hb.grown hg hB (own2_ge h)
theorem own2_none (w : World) (base : Nat) (e : TypeId) : w.ownsRow base e 2 (.slice none 0 0) 0 [] := ⟨by simp, .inl ⟨rfl, rfl⟩⟩
theorem own2_keep {w w' : World} {b : Nat} {e : TypeId} {v : Value} {n : Nat} {xs : List Value} (h : w.ownsRow b e 2 v n xs) (hb : Below w.heap.size w w') : w'.ownsRow b e 2 v n xs := by
  refine ⟨h.1, ?_⟩
  rcases h.2 with h0 | ⟨g, cap, cur, hv, hg, hh, rest⟩
  · exact .inl h0
  · refine .inr ⟨g, cap, cur, hv, hg, (hb.block g ?_).trans hh, rest⟩
    rcases Nat.lt_or_ge g w.heap.size with hlt | hge
    · exact hlt
    · rw [Array.getElem?_eq_none hge] at hh; cases hh
theorem own2_mono {w : World} {b b' : Nat} {e : TypeId} {v : Value} {n : Nat} {xs : List Value} (h : w.ownsRow b e 2 v n xs) (hb : b' ≤ b) : w.ownsRow b' e 2 v n xs := by
  refine ⟨h.1, ?_⟩
  rcases h.2 with h0 | ⟨g, cap, cur, hv, hg, rest⟩
  · exact .inl h0
  · exact .inr ⟨g, cap, cur, hv, Nat.le_trans hb hg, rest⟩

set_option maxRecDepth 100000 in
/-- append of a list of objects onto one of the call's own. -/
theorem run_append_obs (w : World) (base : Nat) (ty : TypeId) (v : Value) (n : Nat) (xs : List Ob) (hown : w.ownsRow base 57 2 v n (obs xs))
    (B : Nat) (A : Option Addr) (m c : Nat) (os : List Ob) (hr : OL w B A m os) (hm : n + m ≤ 1000000) (hbase : base ≤ w.heap.size) :
    ∃ v' w', (Builtin.append_ #[26, 26] ty #[v, .slice A m c]).run Try.prog w = .ok v' w' ∧ w'.ownsRow base 57 2 v' (n + m) (obs (xs ++ os)) ∧ w.grownBy w' v.ownBlock := by
  obtain ⟨i0, hi0, hz0, hz1, hz2⟩ := info_parts infoO
  have ht := Try.underlying26
  rcases A with _ | ad
  · have h0 : m = 0 := by
      rcases Nat.eq_zero_or_pos m with h0 | h0
      · exact h0
      · obtain ⟨b, off, h, _⟩ := hr.2 (by omega)
        cases h
    subst h0
    obtain rfl : os = [] := List.eq_nil_of_length_eq_zero hr.len
    refine ⟨v, w, ?_, by simpa using hown, World.grownBy.refl w _⟩
    rcases hown.2 with ⟨rfl, rfl⟩ | ⟨g, cap, cur, rfl, _, _, hnc, _⟩
    · simp [Builtin.append_, run_underlying ht, sizeOf, typeInfo, hi0, Builtin.lenOf, Builtin.firstCells]
    · simp [Builtin.append_, run_underlying ht, sizeOf, typeInfo, hi0, Builtin.lenOf, Builtin.firstCells, hnc, storeCells]
  · have hcells : ∀ j u, (obs os)[j]? = some u → w.cell? (ad.add j) = some u := by
      intro j u hu
      have hj : j < (obs os).length := (List.getElem?_eq_some_iff.1 hu).1
      rw [obs_length, hr.len] at hj
      obtain ⟨b, off, h, _, hc⟩ := hr.2 (by omega)
      injection h with h
      subst h
      rw [add_none, hc j hj]
      exact hu
    obtain ⟨v', w', hrun, h2, h3, _, h5⟩ := run_append_own_at (P := Try.prog) w base 26 ty 57 i0 _ 2 24 ht hi0 hz0 hz1 hz2 rfl (by decide) v n (obs xs) hown ad m c (obs os) (by rw [obs_length, hr.len]; omega) hcells (obs_one _) (by simp only [maxLen]; omega) (by omega) hbase
    exact ⟨v', w', hrun, by rw [obs_append]; exact h2, h3⟩
set_option maxRecDepth 100000 in
theorem wpList_append_obs (w : World) {ops : Array Oper} {rest : List Oper} {o : Oper} {a : Act} {Q : Exit → Act → World → Prop} (hgd : o.guard = none) (s x : Operand)
    (ho : o.op = .call { callee := .builtin .append, args := #[s, x], argTypes := #[26, 26] })
    (base : Nat) (v : Value) (n : Nat) (xs : List Ob) (hs : a.eval s = v) (hown : w.ownsRow base 57 2 v n (obs xs))
    (B : Nat) (A : Option Addr) (m c : Nat) (os : List Ob) (hx : a.eval x = .slice A m c) (hr : OL w B A m os) (hm : n + m ≤ 1000000) (hbase : base ≤ w.heap.size)
    (h : ∀ v' w', w'.ownsRow base 57 2 v' (n + m) (obs (xs ++ os)) → w.grownBy w' v.ownBlock → wpList Try.prog ops Q rest (a.put o.dst v') w') : wpList Try.prog ops Q (o :: rest) a w := by
  refine wpList_plain hgd fun _ hK => ?_
  obtain ⟨v', w', hrun, h2, h3⟩ := run_append_obs w base o.type v n xs hown B A m c os hr hm hbase
  unfold Oper.wp execOp
  simp only [ho, resolve, invoke, builtin, Sem.run_bind, Sem.run_pure, Result.andThen_ok, List.map_toArray, List.map_cons, List.map_nil, hs, hx, hrun]
  exact hK _ _ (h v' w' h2 h3)

end Go.Proofs.Ytielfekkonflfaa

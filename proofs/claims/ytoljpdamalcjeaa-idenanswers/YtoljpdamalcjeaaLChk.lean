/- What IdenChecks does to a list. -/
import Derived.Test.YtoljpdamalcjeaaIdenA
import Derived.Test.YtoljpdamalcjeaaIChk
import Derived.Deep.RegionLaw
namespace Go.Proofs.Ytoljpdamalcjeaa
open Go.ChangeShapes Go.WideShapes Go.ChangeAt Go.RowKit
set_option linter.unusedVariables false
set_option linter.unusedSimpArgs false

theorem ol_of_whole {w : World} {g n : Nat} {T : TypeId} {os xs : List Ob} (hl : os.length = n) (h : WholeV w g T (obs (os ++ xs))) : OL w w.heap.size (some ⟨g, 0, none⟩) n os := by
  refine ⟨by rw [obs_length]; omega, fun h0 => ⟨g, 0, rfl, h.lt, fun j hj => ?_⟩⟩
  rw [Nat.zero_add, h.cell j, obs_append, List.getElem?_append_left (by rw [obs_length]; omega)]
theorem good_check {os : List Ob} (h : goodL os) : checkOf os = 0 := by
  unfold checkOf
  have h3 := h.l3
  rw [if_pos, if_pos, if_pos]
  · intro k hk
    refine ⟨by omega, ?_⟩
    rcases (show k = 0 ∨ k = 1 ∨ k = 2 by omega) with rfl | rfl | rfl
    · exact h.z0
    · exact h.z1
    · exact h.z2
  · exact fun k hk => h.short _ (goodL.getD_mem k hk)
  · refine fun k hk => ⟨h.byte _ (goodL.getD_mem k hk), fun h0 => ?_⟩
    have := h.rise (k - 1) (by omega)
    rwa [show k - 1 + 1 = k by omega] at this
theorem obs_setId (os : List Ob) (k : Nat) (x : Int) : (obs os).set (k * 2) (.int .i64 x) = obs (os.set k (x, (os.getD k ob0).2)) := by
  induction os generalizing k with
  | nil => simp [obs]
  | cons o os ih =>
    cases k with
    | zero => simp [obs_cons]
    | succ k =>
      rw [obs_cons, show (k + 1) * 2 = (k * 2) + 1 + 1 by omega, List.set_cons_succ, List.set_cons_succ, ih, List.set_cons_succ, obs_cons]
      rfl
/-- The front of a list of the call's own. -/
theorem own2_front {w : World} {base : Nat} {e : TypeId} {A : Option Addr} {n c k : Nat} {os : List Ob} (h : w.ownsRow base e 2 (.slice A n c) n (obs os)) (hk : k ≤ n) (hn : 0 < n) : w.ownsRow base e 2 (.slice A k c) k (obs (os.take k)) := by
  have hl := h.1
  rw [obs_length] at hl
  refine ⟨by rw [obs_length, List.length_take]; omega, ?_⟩
  rcases h.2 with ⟨h1, h2⟩ | ⟨g, cap, cur, hv, hg, hh, hnc, hm, hcs, ht⟩
  · omega
  · injection hv with e1 e2 e3
    subst e1 e3
    refine .inr ⟨g, c, cur, rfl, hg, hh, by omega, hm, hcs, ?_⟩
    have h2 : (cur.toList.take (n * 2)).take (k * 2) = (obs os).take (k * 2) := by rw [ht]
    rw [List.take_take, Nat.min_eq_left (by omega)] at h2
    rw [h2, obs_take, Nat.mul_comm]

theorem own2_set {w : World} {base : Nat} {e : TypeId} {g n c : Nat} {xs : List Value} (h : w.ownsRow base e 2 (.slice (some ⟨g, 0, none⟩) n c) n xs) (hn : 0 < n) (i : Nat) (u : Value) : (w.setCell ⟨g, i, none⟩ u).ownsRow base e 2 (.slice (some ⟨g, 0, none⟩) n c) n (xs.set i u) := by
  obtain ⟨g', c', hv, _, _, _, _, hs⟩ := own2_open h hn
  injection hv with e1 e2 e3
  injection e1 with e1
  injection e1 with e1
  subst e1 e3
  exact hs i u
/-- append of objects onto a list of the call's own, at a step of a region that draws its order. -/
theorem step_append_obs {w : World} {ops : Array Oper} {o : Oper} {a : Act} {K : Act → World → Prop} {Q : Exit → Act → World → Prop} {E : Prop} (s x : Operand) (base : Nat) (v : Value) (n : Nat) (xs : List Ob) (m : Nat) (os : List Ob) (hm : n + m ≤ 1000000)
    (ho : o.guard = none ∧ o.op = .call { callee := .builtin .append, args := #[s, x], argTypes := #[51, 51] } ∧ a.eval s = v)
    (hown : w.ownsRow base 98 2 v n (obs xs)) (hr : ∃ A c, a.eval x = .slice A m c ∧ OL w w.heap.size A m os) (hbase : base ≤ w.heap.size)
    (h : ∀ A' c' w', w'.ownsRow base 98 2 (.slice A' (n + m) c') (n + m) (obs (xs ++ os)) → w.grownBy w' v.ownBlock → K (a.put o.dst (.slice A' (n + m) c')) w') :
    if Region.wanted o (yielded ops a.tmps) = true then Oper.wp Try.prog o a w K Q else E := by
  obtain ⟨hgd, hop, hs⟩ := ho
  obtain ⟨A, c, hx, hr⟩ := hr
  have hw : Region.wanted o (yielded ops a.tmps) = true := by simp [Region.wanted, hgd]
  rw [if_pos hw]
  obtain ⟨v', w', hrun, h2, h3⟩ := run_append_obs w base o.type v n xs hown w.heap.size A m c os hr hm hbase
  obtain ⟨A', c', rfl⟩ := own2_slice h2
  unfold Oper.wp execOp
  simp only [hop, resolve, invoke, builtin, Sem.run_bind, Sem.run_pure, Result.andThen_ok, List.map_toArray, List.map_cons, List.map_nil, hs, hx, hrun]
  exact h A' c' w' h2 h3

end Go.Proofs.Ytoljpdamalcjeaa

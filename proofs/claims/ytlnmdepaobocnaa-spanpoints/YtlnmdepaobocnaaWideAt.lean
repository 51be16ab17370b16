/- copy of a slice whose elements have several cells, to a place within a block; lists of spans: making one, writing into one. No statement is proved here. -/
import Derived.Test.YtlnmdepaobocnaaSpan1
import Derived.Test.YtlnmdepaobocnaaWide
namespace Go.Proofs.Ytlnmdepaobocnaa
open Go.ChangeShapes Go.WideShapes Go.ChangeAt Go.RowKit
set_option linter.unusedVariables false
set_option linter.unusedSimpArgs false

theorem splice_none {α : Type} (L : List α) (off : Nat) : splice L off [] = L := by simp [splice]
theorem run_copy_wide_at {P : Program} (w : World) (dT sT ty elem : TypeId) (s g off dLen dCap : Nat) (dp sp : Option Addr) (sLen sCap : Nat) (cur : List Value) (t : TypeId) (cs : List Value) (n : Nat)
    (hu : P.underlying dT = some (.slice elem)) (hs : (P.info? elem).map (·.size) = some s) (hg : w.heap[g]? = some (.cells cur.toArray t (0, 0))) (hn : n = Nat.min sLen dLen) (hl : cs.length = n * s)
    (hpos : 0 < n → dp = some ⟨g, off, none⟩ ∧ ∃ ad, sp = some ad ∧ ∀ j v, cs[j]? = some v → w.cell? (ad.add j) = some v) (hfit : off + cs.length ≤ cur.length) (h1 : ∀ v ∈ cs, v.oneCell' = true) :
    (Builtin.copy_ #[dT, sT] ty #[.slice dp dLen dCap, .slice sp sLen sCap]).run P w = .ok (goInt n) (w.setRow g (splice cur off cs).toArray) := by
  cases hq : P.info? elem with
  | none => simp [hq] at hs
  | some i =>
    have hi : i.size = s := by simpa [hq] using hs
    have h2 : Nat.min sLen dLen = n := hn.symm
    by_cases h0 : n = 0
    · subst h0
      obtain rfl : cs = [] := List.eq_nil_of_length_eq_zero (by omega)
      have he := setRow_self w g cur.toArray t (0, 0) hg
      have hl : ∀ (x : Addr), (loadCells x 0).run P w = .ok #[] w := fun x => by simpa using run_loadCells_list (P := P) w x [] (by simp)
      rw [splice_none, he]
      cases dp <;> cases sp <;> simp [Builtin.copy_, run_underlying hu, Builtin.lenOf, Builtin.firstCells, sizeOf, typeInfo, hq, h2, storeCells, hl]
    · obtain ⟨rfl, ad, rfl, hc⟩ := hpos (by omega)
      have hst := run_storeCells_at P g off t cs 0 cur.toArray w hg (by simpa using hfit) h1
      have hl' := run_loadCells_list (P := P) w ad cs hc
      simp only [Nat.add_zero] at hst
      rw [show splice cur off cs = cur.toArray.toList.take off ++ cs ++ cur.toArray.toList.drop (off + cs.length) by simp [splice]]
      simp [Builtin.copy_, run_underlying hu, Builtin.lenOf, Builtin.firstCells, sizeOf, typeInfo, hq, hi, h2, ← hl, hl', hst]

theorem wpList_copy_wat {P : Program} {w : World} {ops : Array Oper} {rest : List Oper} {o : Oper} {a : Act} {Q : Exit → Act → World → Prop} (hgd : o.guard = none) (d s : Operand) (dT sT : TypeId)
    (ho : o.op = .call { callee := .builtin .copy, args := #[d, s], argTypes := #[dT, sT] }) (elem : TypeId) (sz : Nat) (hu : P.underlying dT = some (.slice elem)) (hsz : (P.info? elem).map (·.size) = some sz)
    (dp sp : Option Addr) (dLen dCap sLen sCap : Nat) (hd : a.eval d = .slice dp dLen dCap) (hs : a.eval s = .slice sp sLen sCap)
    (g off : Nat) (cur : List Value) (t : TypeId) (hg : w.heap[g]? = some (.cells cur.toArray t (0, 0))) (cs : List Value) (n : Nat) (hn : n = Nat.min sLen dLen) (hl : cs.length = n * sz)
    (hpos : 0 < n → dp = some ⟨g, off, none⟩ ∧ ∃ ad, sp = some ad ∧ ∀ j v, cs[j]? = some v → w.cell? (ad.add j) = some v) (hfit : off + cs.length ≤ cur.length) (h1 : ∀ v ∈ cs, v.oneCell' = true)
    (B : Nat) (w0 : World) (hb : Below B w0 w) (hBg : B ≤ g)
    (h : ∀ w', WholeV w' g t (splice cur off cs) → Below B w0 w' → wpList P ops Q rest (a.put o.dst (goInt n)) w') :
    wpList P ops Q (o :: rest) a w := by
  refine wpList_plain hgd fun K hK => ?_
  have hrun := run_copy_wide_at (P := P) w dT sT o.type elem sz g off dLen dCap dp sp sLen sCap cur t cs n hu hsz hg hn hl hpos hfit h1
  unfold Oper.wp
  simp [execOp, ho, resolve, invoke, builtin, hd, hs, hrun, Result.andThen]
  refine hK _ _ (h _ ?_ (below_setRow hb hBg _))
  unfold WholeV
  exact setRow_heap w g _ _ t _ hg

/-- The same as a step of a region that draws its order. -/
theorem step_copy_wat {P : Program} {ops : Array Oper} {o : Oper} {a : Act} {w : World} {K : Act → World → Prop} {Q : Exit → Act → World → Prop} {E : Prop} (hgd : o.guard = none) (d s : Operand) (dT sT : TypeId)
    (ho : o.op = .call { callee := .builtin .copy, args := #[d, s], argTypes := #[dT, sT] }) (elem : TypeId) (sz : Nat) (hu : P.underlying dT = some (.slice elem)) (hsz : (P.info? elem).map (·.size) = some sz)
    (dp sp : Option Addr) (dLen dCap sLen sCap : Nat) (hd : a.eval d = .slice dp dLen dCap) (hs : a.eval s = .slice sp sLen sCap)
    (g off : Nat) (cur : List Value) (t : TypeId) (hg : w.heap[g]? = some (.cells cur.toArray t (0, 0))) (cs : List Value) (n : Nat) (hn : n = Nat.min sLen dLen) (hl : cs.length = n * sz)
    (hpos : 0 < n → dp = some ⟨g, off, none⟩ ∧ ∃ ad, sp = some ad ∧ ∀ j v, cs[j]? = some v → w.cell? (ad.add j) = some v) (hfit : off + cs.length ≤ cur.length) (h1 : ∀ v ∈ cs, v.oneCell' = true)
    (B : Nat) (w0 : World) (hb : Below B w0 w) (hBg : B ≤ g)
    (h : ∀ w', WholeV w' g t (splice cur off cs) → Below B w0 w' → K (a.put o.dst (goInt n)) w') :
    if Region.wanted o (yielded ops a.tmps) = true then Oper.wp P o a w K Q else E := by
  have hw : Region.wanted o (yielded ops a.tmps) = true := by simp [Region.wanted, hgd]
  rw [if_pos hw]
  have hrun := run_copy_wide_at (P := P) w dT sT o.type elem sz g off dLen dCap dp sp sLen sCap cur t cs n hu hsz hg hn hl hpos hfit h1
  unfold Oper.wp
  simp [execOp, ho, resolve, invoke, builtin, hd, hs, hrun, Result.andThen]
  refine h _ ?_ (below_setRow hb hBg _)
  unfold WholeV
  exact setRow_heap w g _ _ t _ hg

theorem made_sps (n : Nat) : madeCells #[.int .i64 0, .int .i64 0, .int .i64 0] (n * 3) = (sps (List.replicate n sp0)).toArray := by
  apply Array.toList_inj.1
  apply List.ext_getElem?
  intro j
  have hl : (sps (List.replicate n sp0)).length = 3 * n := by rw [sps_length, List.length_replicate]
  by_cases hj : j < n * 3
  · have hq : j / 3 < n := by omega
    obtain ⟨h1, h2, h3⟩ := sps_at (List.replicate n sp0) (j / 3) (by rw [List.length_replicate]; exact hq)
    have e : (List.replicate n sp0).getD (j / 3) sp0 = sp0 := by simp [List.getD_eq_getElem?_getD, List.getElem?_replicate, hq]
    rw [e] at h1 h2 h3
    have hm : j % 3 = 0 ∨ j % 3 = 1 ∨ j % 3 = 2 := by omega
    rcases hm with h | h | h
    · rw [show j = 3 * (j / 3) by omega]
      simp only [h1, madeCells]
      simp [show 3 * (j / 3) < n * 3 by omega, sp0]
    · rw [show j = 3 * (j / 3) + 1 by omega]
      simp only [h2, madeCells]
      simp [show 3 * (j / 3) + 1 < n * 3 by omega, sp0, Nat.add_mod]
    · rw [show j = 3 * (j / 3) + 2 by omega]
      simp only [h3, madeCells]
      simp [show 3 * (j / 3) + 2 < n * 3 by omega, sp0, Nat.add_mod]
  · rw [List.getElem?_eq_none (by simp [madeCells]; omega), List.getElem?_eq_none (by simp [hl]; omega)]
theorem make_sps (n c : Nat) (hn : n ≤ c) (hc : c ≤ 1000000) (W : World) :
    (Instr.makeSlice 24 (.int .i64 (n : Int)) (.int .i64 (c : Int))).run Try.prog W = .ok (.slice (some ⟨W.heap.size, 0, none⟩) n c) (W.alloc (.cells (sps (List.replicate c sp0)).toArray 23)) := by
  obtain ⟨i0, hi0, hz0, hz1, hz2⟩ := info_parts infoS
  have hr := run_make (P := Try.prog) W 24 23 i0 _ Try.underlying24 hi0 hz0 .i64 .i64 n c (by omega) (by omega) (by rw [hz2]; omega) (by omega)
  simp only [Int.toNat_natCast, hz1] at hr
  rw [hr]
  rw [show (Value.agg #[.int .i64 0, .int .i64 0, .int .i64 0]).cells = #[.int .i64 0, .int .i64 0, .int .i64 0] from rfl, made_sps]

theorem so_of_whole {w : World} {g B : Nat} {l : List Sp} {n c : Nat} {vs : List Value} (h : WholeV w g 23 (sps l ++ vs)) (hb : B ≤ g) (hl : l.length = n) (hv : vs.length = 3 * (c - n)) (hnc : n ≤ c) (hc : c ≤ 1000000) : SO w B (.slice (some ⟨g, 0, none⟩) n c) n l := by
  refine ⟨by rw [sps_length]; omega, .inr ⟨g, c, _, rfl, hb, h, hnc, by simp only [maxLen]; omega, ?_, ?_⟩⟩
  · simp only [List.size_toArray, List.length_append, sps_length]
    omega
  · rw [show (sps l ++ vs).toArray.toList = sps l ++ vs from rfl, List.take_left' (by rw [sps_length]; omega)]

end Go.Proofs.Ytlnmdepaobocnaa

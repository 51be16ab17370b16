/- Worlds that differ in some blocks alone; copy into a block of which the place is given. No statement is proved here. -/
import Derived.Test.YtlnmdepaobocnaaRMath
import Derived.Test.YtlnmdepaobocnaaStep
namespace Go.Proofs.Ytlnmdepaobocnaa
open Go.ChangeShapes Go.WideShapes Go.ChangeAt Go.RowKit
set_option linter.unusedVariables false
set_option linter.unusedSimpArgs false

/-- Only blocks of S, and what was made since, may have turned. -/
structure Off (S : Nat → Prop) (w w' : World) : Prop where
  os : w'.os = w.os
  tape : w'.tape = w.tape
  output : w'.output = w.output
  size : w.heap.size ≤ w'.heap.size
  block : ∀ k, k < w.heap.size → ¬ S k → w'.heap[k]? = w.heap[k]?

theorem Off.refl (S : Nat → Prop) (w : World) : Off S w w := ⟨rfl, rfl, rfl, Nat.le_refl _, fun _ _ _ => rfl⟩
theorem Off.trans {S T : Nat → Prop} {a b c : World} (h : Off S a b) (k : Off T b c) (hT : ∀ i, T i → S i ∨ a.heap.size ≤ i) : Off S a c :=
  ⟨k.os.trans h.os, k.tape.trans h.tape, k.output.trans h.output, Nat.le_trans h.size k.size, fun i hi hs => (k.block i (Nat.lt_of_lt_of_le hi h.size) (fun ht => by
    rcases hT i ht with h1 | h1
    · exact hs h1
    · omega)).trans (h.block i hi hs)⟩
theorem Off.mono {S T : Nat → Prop} {w w' : World} (h : Off S w w') (hT : ∀ i, S i → T i) : Off T w w' := ⟨h.os, h.tape, h.output, h.size, fun k hk ht => h.block k hk (fun hs => ht (hT k hs))⟩
theorem Off.of_below {S : Nat → Prop} {w w' : World} (h : Below w.heap.size w w') : Off S w w' := ⟨h.os, h.tape, h.output, h.size, fun k hk _ => h.block k hk⟩
theorem Off.below {S : Nat → Prop} {w w' : World} {B : Nat} (h : Off S w w') (hB : B ≤ w.heap.size) (hS : ∀ k, k < B → ¬ S k) : Below B w w' := ⟨h.os, h.tape, h.output, h.size, fun k hk => h.block k (by omega) (hS k hk)⟩
theorem Off.then {S : Nat → Prop} {a b c : World} (h : Off S a b) (k : Below b.heap.size b c) : Off S a c := h.trans (T := fun _ => False) (Off.of_below k) (fun _ hi => hi.elim)
theorem Off.alloc {S : Nat → Prop} {a w : World} (h : Off S a w) (o : Obj) : Off S a (w.alloc o) := h.then ((Below.refl _ _).alloc (Nat.le_refl _) o)
theorem Off.drewN {S : Nat → Prop} {a w : World} (h : Off S a w) (d : Nat) : Off S a (w.drewN d) := ⟨h.os, h.tape, h.output, h.size, h.block⟩
theorem Off.drew {S : Nat → Prop} {a w : World} (h : Off S a w) : Off S a w.drew := ⟨h.os, h.tape, h.output, h.size, h.block⟩
theorem Off.setCell {S : Nat → Prop} {a w : World} (h : Off S a w) {p : Addr} (hp : S p.block ∨ a.heap.size ≤ p.block) (u : Value) : Off S a (w.setCell p u) :=
  h.trans (T := fun k => k = p.block) ⟨rfl, rfl, rfl, by simp [World.setCell], fun k hk hs => Below.heap_setCell w p u k hs⟩ (fun i hi => by subst hi; exact hp)
theorem Off.cell {S : Nat → Prop} {w w' : World} (h : Off S w w') {p : Addr} (hp : p.block < w.heap.size) (hs : ¬ S p.block) : w'.cell? p = w.cell? p := World.cell?_of_block (w := w) (h.block p.block hp hs)
theorem Off.frozen {S : Nat → Prop} {w w' : World} (h : Off S w w') {p : Addr} (hp : p.block < w.heap.size) (hs : ¬ S p.block) : w'.frozen? p = w.frozen? p := World.frozen?_of_block (w := w) (h.block p.block hp hs)
theorem Off.whole {S : Nat → Prop} {w w' : World} {g : Nat} {t : TypeId} {vs : List Value} (h : Off S w w') (hg : WholeV w g t vs) (hs : ¬ S g) : WholeV w' g t vs := (h.block g hg.lt hs).trans hg
theorem Off.wholeI {S : Nat → Prop} {w w' : World} {g : Nat} {k : IntKind} {t : TypeId} {zs : List Int} (h : Off S w w') (hg : Whole k w g t zs) (hs : ¬ S g) : Whole k w' g t zs := (h.block g hg.lt hs).trans hg
theorem Off.own {S : Nat → Prop} {w w' : World} {b : Nat} {e : TypeId} {v : Value} {n : Nat} {xs : List Value} (h : Off S w w') (ho : w.ownsRow b e 1 v n xs) (hs : ∀ k, b ≤ k → k < w.heap.size → ¬ S k) : w'.ownsRow b e 1 v n xs := by
  refine ⟨ho.1, ?_⟩
  rcases ho.2 with h0 | ⟨g, cap, cur, hv, hg, hh, rest⟩
  · exact .inl h0
  · have hlt : g < w.heap.size := by
      rcases Nat.lt_or_ge g w.heap.size with hlt | hge
      · exact hlt
      · rw [Array.getElem?_eq_none hge] at hh; cases hh
    exact .inr ⟨g, cap, cur, hv, hg, (h.block g hlt (hs g hg hlt)).trans hh, rest⟩
theorem Off.grown {S : Nat → Prop} {a w w' : World} {row : Option Nat} (h : Off S a w) (hg : w.grownBy w' row) (hr : ∀ k, row = some k → S k ∨ a.heap.size ≤ k) : Off S a w' :=
  h.trans (T := fun k => row = some k) ⟨hg.os, hg.tape, hg.output, hg.size, fun k hk hs => hg.block k hk (fun e => hs e.symm)⟩ (fun i hi => hr i hi)

/-- A slice that reads as the bytes zs, in a block that S has not. -/
def RowOff (w : World) (S : Nat → Prop) (A : Option Addr) (n : Nat) (zs : List Int) : Prop :=
  zs.length = n ∧ (0 < n → ∃ b off, A = some ⟨b, off, none⟩ ∧ b < w.heap.size ∧ ¬ S b ∧ ∀ j, j < n → w.cell? ⟨b, off + j, none⟩ = some (.int .u8 (zs.getD j 0)))
theorem RowOff.off {S T : Nat → Prop} {w w' : World} {A : Option Addr} {n : Nat} {zs : List Int} (h : RowOff w S A n zs) (ho : Off T w w') (hT : ∀ k, T k → S k) : RowOff w' S A n zs :=
  ⟨h.1, fun h0 => by
    obtain ⟨b, off, e, hb, hs, hc⟩ := h.2 h0
    exact ⟨b, off, e, Nat.lt_of_lt_of_le hb ho.size, hs, fun j hj => (ho.cell (p := ⟨b, off + j, none⟩) hb (fun ht => hs (hT b ht))).trans (hc j hj)⟩⟩
theorem RowOff.row {S : Nat → Prop} {w : World} {A : Option Addr} {n : Nat} {zs : List Int} (h : RowOff w S A n zs) : Row .u8 w w.heap.size A n zs :=
  ⟨h.1, fun h0 => by
    obtain ⟨b, off, e, hb, hs, hc⟩ := h.2 h0
    exact ⟨b, off, e, hb, hc⟩⟩
theorem RowOff.of_row {S : Nat → Prop} {w : World} {B : Nat} {A : Option Addr} {n : Nat} {zs : List Int} (h : Row .u8 w B A n zs) (hB : B ≤ w.heap.size) (hS : ∀ k, k < B → ¬ S k) : RowOff w S A n zs :=
  ⟨h.1, fun h0 => by
    obtain ⟨b, off, e, hb, hc⟩ := h.2 h0
    exact ⟨b, off, e, by omega, hS b hb, hc⟩⟩
theorem RowOff.of_whole {S : Nat → Prop} {w : World} {g n : Nat} {t : TypeId} {zs ys : List Int} (h : Whole .u8 w g t (zs ++ ys)) (hn : zs.length = n) (hS : ¬ S g) : RowOff w S (some ⟨g, 0, none⟩) n zs :=
  ⟨hn, fun h0 => ⟨g, 0, rfl, h.lt, hS, fun j hj => by
    rw [Nat.zero_add, h.cell j (by rw [List.length_append]; omega)]
    simp [List.getD_eq_getElem?_getD, List.getElem?_append_left (show j < zs.length by omega)]⟩⟩

/-- A slice of some bytes of a row: from k on, m of them. -/
theorem RowOff.part {S : Nat → Prop} {w : World} {A : Option Addr} {n : Nat} {zs : List Int} (h : RowOff w S A n zs) (k m : Nat) (hm : 0 < m) (hk : k + m ≤ n) :
    ∃ ad : Addr, A = some ad ∧ ∀ j v, (((zs.drop k).take m).map (Value.int .u8))[j]? = some v → w.cell? ((ad.add k).add j) = some v := by
  obtain ⟨b, off, e, hb, hs, hc⟩ := h.2 (by omega)
  refine ⟨⟨b, off, none⟩, e, fun j v hv => ?_⟩
  have hl := h.1
  rw [add_none, add_none]
  rw [List.getElem?_map, List.getElem?_take] at hv
  by_cases hj : j < m
  · rw [if_pos hj, List.getElem?_drop, List.getElem?_eq_getElem (by omega)] at hv
    have := hc (k + j) (by omega)
    rw [Nat.add_assoc, this]
    rw [← hv, List.getD_eq_getElem?_getD, List.getElem?_eq_getElem (by omega)]
    rfl
  · rw [if_neg hj] at hv
    cases hv

/-- copy into a block whose place is given: only that block turns. -/
theorem wpList_copy_at {P : Program} {w : World} {ops : Array Oper} {rest : List Oper} {o : Oper} {a : Act} {Q : Exit → Act → World → Prop} (hgd : o.guard = none) (d s : Operand) (dT sT : TypeId)
    (ho : o.op = .call { callee := .builtin .copy, args := #[d, s], argTypes := #[dT, sT] }) (elem : TypeId) (hu : P.underlying dT = some (.slice elem)) (hsz : (P.info? elem).map (·.size) = some 1)
    (dp sp : Option Addr) (dLen dCap sLen sCap : Nat) (hd : a.eval d = .slice dp dLen dCap) (hs : a.eval s = .slice sp sLen sCap)
    (g off : Nat) (cur : List Value) (t : TypeId) (hg : w.heap[g]? = some (.cells cur.toArray t (0, 0))) (cs : List Value) (n : Nat) (hl : cs.length = n) (hn : n = Nat.min sLen dLen)
    (hpos : 0 < n → dp = some ⟨g, off, none⟩ ∧ ∃ ad, sp = some ad ∧ ∀ j v, cs[j]? = some v → w.cell? (ad.add j) = some v)
    (hfit : off + n ≤ cur.length) (h1 : ∀ v ∈ cs, v.oneCell' = true)
    (h : ∀ w', Hid (w'.heap[g]? = some (.cells (splice cur off cs).toArray t (0, 0))) → Off (fun k => k = g) w w' → wpList P ops Q rest (a.put o.dst (goInt n)) w') :
    wpList P ops Q (o :: rest) a w := by
  subst hl
  by_cases h0 : cs.length = 0
  · obtain rfl : cs = [] := List.eq_nil_of_length_eq_zero h0
    refine wpList_copy_nothing hgd d s dT sT ho elem hu hsz dp sp dLen dCap sLen sCap hd hs (by simpa using hn.symm) ?_
    exact h w (show _ = _ by simpa [splice] using hg) (Off.refl _ _)
  · obtain ⟨rfl, ad, rfl, hsrc⟩ := hpos (by omega)
    refine wpList_copy_own hgd d s dT sT ho elem hu hsz g off dLen dCap ad sLen sCap hd hs cur.toArray t hg cs hn hsrc (by simpa using hfit) h1 ?_
    exact h _ (show _ = _ by simpa [splice] using setRow_heap w g _ _ t _ hg) ⟨rfl, rfl, rfl, by simp [World.setRow], fun k hk hs => setRow_other w g k _ hs⟩

/-- The same as a step of a region that draws its order. -/
theorem step_copy_at {P : Program} {ops : Array Oper} {o : Oper} {a : Act} {w : World} {K : Act → World → Prop} {Q : Exit → Act → World → Prop} {E : Prop} (hgd : o.guard = none) (d s : Operand) (dT sT : TypeId)
    (ho : o.op = .call { callee := .builtin .copy, args := #[d, s], argTypes := #[dT, sT] }) (elem : TypeId) (hu : P.underlying dT = some (.slice elem)) (hsz : (P.info? elem).map (·.size) = some 1)
    (dp sp : Option Addr) (dLen dCap sLen sCap : Nat) (hd : a.eval d = .slice dp dLen dCap) (hs : a.eval s = .slice sp sLen sCap)
    (g off : Nat) (cur : List Value) (t : TypeId) (hg : w.heap[g]? = some (.cells cur.toArray t (0, 0))) (cs : List Value) (n : Nat) (hl : cs.length = n) (hn : n = Nat.min sLen dLen)
    (hpos : 0 < n → dp = some ⟨g, off, none⟩ ∧ ∃ ad, sp = some ad ∧ ∀ j v, cs[j]? = some v → w.cell? (ad.add j) = some v)
    (hfit : off + n ≤ cur.length) (h1 : ∀ v ∈ cs, v.oneCell' = true)
    (h : ∀ w', Hid (w'.heap[g]? = some (.cells (splice cur off cs).toArray t (0, 0))) → Off (fun k => k = g) w w' → K (a.put o.dst (goInt n)) w') :
    if Region.wanted o (yielded ops a.tmps) = true then Oper.wp P o a w K Q else E := by
  subst hl
  have hw : Region.wanted o (yielded ops a.tmps) = true := by simp [Region.wanted, hgd]
  rw [if_pos hw]
  by_cases h0 : cs.length = 0
  · obtain rfl : cs = [] := List.eq_nil_of_length_eq_zero h0
    have hrun := run_copy_none (P := P) w dT sT o.type elem dp sp dLen dCap sLen sCap hu hsz (by simpa using hn.symm)
    unfold Oper.wp
    simp [execOp, ho, resolve, invoke, builtin, hd, hs, hrun, Result.andThen]
    exact h w (show _ = _ by simpa [splice] using hg) (Off.refl _ _)
  · obtain ⟨rfl, ad, rfl, hsrc⟩ := hpos (by omega)
    have hrun := run_copy_row (P := P) w dT sT o.type elem g off dLen dCap ad sLen sCap cur.toArray t cs hu hsz hg hn hsrc (by simpa using hfit) h1
    unfold Oper.wp
    simp [execOp, ho, resolve, invoke, builtin, hd, hs, hrun, Result.andThen]
    exact h _ (show _ = _ by simpa [splice] using setRow_heap w g _ _ t _ hg) ⟨rfl, rfl, rfl, by simp [World.setRow], fun k hk hs => setRow_other w g k _ hs⟩

end Go.Proofs.Ytlnmdepaobocnaa

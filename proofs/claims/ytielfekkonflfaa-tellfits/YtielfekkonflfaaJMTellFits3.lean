/- Joined: RMath Off Cell1 Cell2 Cell3 Cell4 Cell10. -/
import Derived.Test.YtielfekkonflfaaGen
import Derived.Laws.CopyOwn
import Derived.Test.YtielfekkonflfaaStep
import Derived.Test.YtielfekkonflfaaObjs
import Derived.Test.YtielfekkonflfaaLAsk
import Derived.Test.YtielfekkonflfaaJTellBack2
namespace Go.Proofs.Ytielfekkonflfaa
open Go.RowKit
set_option linter.unusedVariables false
set_option linter.unusedSimpArgs false
open Go.ChangeShapes Go.WideShapes Go.ChangeAt Go.RowKit

/-- The place i behind f, of M places. -/
def plc (M f i : Nat) : Nat := if M = 0 then 0 else (f + i) % M
theorem plc_zero (f i : Nat) : plc 0 f i = 0 := rfl
theorem plc_lo {M f i : Nat} (h : f + i < M) : plc M f i = f + i := by
  unfold plc; rw [if_neg (by omega)]; exact Nat.mod_eq_of_lt h
theorem plc_hi {M f i : Nat} (h : M ≤ f + i) (h2 : f + i < 2 * M) : plc M f i = f + i - M := by
  unfold plc; rw [if_neg (by omega), Nat.mod_eq_sub_mod h]; exact Nat.mod_eq_of_lt (by omega)
theorem plc_lt {M f i : Nat} (h : 0 < M) : plc M f i < M := by
  unfold plc; rw [if_neg (by omega)]; exact Nat.mod_lt _ h
theorem plc_le {M f i : Nat} : plc M f i ≤ M := by
  rcases Nat.eq_zero_or_pos M with h | h
  · subst h; exact Nat.le_refl _
  · exact Nat.le_of_lt (plc_lt h)

/-- The places pl, as many as M, hold qs from place f on. -/
def Holds (pl : List Int) (M f : Nat) (qs : List Int) : Prop :=
  pl.length = M ∧ qs.length ≤ M ∧ f ≤ M ∧ (0 < M → f < M) ∧ ∀ j, j < qs.length → pl.getD (plc M f j) 0 = qs.getD j 0

theorem holds_new (M : Nat) : Holds (List.replicate M 0) M 0 [] := ⟨by simp, by simp, by omega, fun h => h, fun j hj => by simp at hj⟩

theorem getD_splice (L X : List Int) (o i : Nat) (h : o + X.length ≤ L.length) : (splice L o X).getD i 0 = if o ≤ i ∧ i < o + X.length then X.getD (i - o) 0 else L.getD i 0 := by
  unfold splice
  simp only [List.getD_eq_getElem?_getD]
  congr 1
  by_cases h1 : i < o
  · rw [if_neg (by omega), List.getElem?_append_left (by rw [List.length_take]; omega), List.getElem?_take, if_pos h1]
  · have hl : (L.take o).length = o := by rw [List.length_take]; omega
    rw [List.getElem?_append_right (by omega), hl]
    by_cases h2 : i < o + X.length
    · rw [if_pos ⟨by omega, h2⟩, List.getElem?_append_left (by omega)]
    · rw [if_neg (by omega), List.getElem?_append_right (by omega), List.getElem?_drop, show o + X.length + (i - o - X.length) = i by omega]

/-- What is looked at. -/
theorem holds_look {pl : List Int} {M f : Nat} {qs : List Int} (h : Holds pl M f qs) (n k : Nat) (hn : n ≤ qs.length) (hk : k = min n (M - f)) : (pl.drop f).take k ++ pl.take (n - k) = qs.take n := by
  obtain ⟨h1, h2, h3, h4, h5⟩ := h
  apply List.ext_getElem?
  intro i
  by_cases hi : i < n
  · have hM : f < M := h4 (by omega)
    have hv := h5 i (by omega)
    simp only [List.getD_eq_getElem?_getD] at hv
    rw [List.getElem?_take, if_pos hi]
    have hq : qs[i]? = some ((qs[i]?).getD 0) := by rw [List.getElem?_eq_getElem (by omega)]; rfl
    rw [hq, ← hv]
    by_cases hlo : i < k
    · rw [List.getElem?_append_left (by rw [List.length_take, List.length_drop]; omega), List.getElem?_take, if_pos hlo, List.getElem?_drop, plc_lo (by omega), List.getElem?_eq_getElem (by omega)]
      rfl
    · have hl : ((pl.drop f).take k).length = k := by rw [List.length_take, List.length_drop]; omega
      rw [List.getElem?_append_right (by omega), hl, List.getElem?_take, if_pos (by omega), plc_hi (by omega) (by omega), show f + i - M = i - k by omega, List.getElem?_eq_getElem (by omega)]
      rfl
  · rw [List.getElem?_eq_none (by simp only [List.length_append, List.length_take, List.length_drop]; omega), List.getElem?_eq_none (by rw [List.length_take]; omega)]

/-- What is taken is gone. -/
theorem holds_take {pl : List Int} {M f : Nat} {qs : List Int} (h : Holds pl M f qs) (n : Nat) (hn : n ≤ qs.length) : Holds pl M (plc M f n) (qs.drop n) := by
  obtain ⟨h1, h2, h3, h4, h5⟩ := h
  refine ⟨h1, by rw [List.length_drop]; omega, plc_le, fun h0 => plc_lt h0, fun j hj => ?_⟩
  rw [List.length_drop] at hj
  have hM : f < M := h4 (by omega)
  have hv := h5 (n + j) (by omega)
  have e : plc M (plc M f n) j = plc M f (n + j) := by
    unfold plc
    rw [if_neg (by omega), if_neg (by omega), if_neg (by omega), Nat.mod_add_mod, Nat.add_assoc]
  rw [e, hv]
  simp [List.getD_eq_getElem?_getD, List.getElem?_drop]

/-- What is put stands behind. -/
theorem holds_put {pl : List Int} {M f : Nat} {qs : List Int} (h : Holds pl M f qs) (zs : List Int) (n e k : Nat) (hz : zs.length = n) (hn : qs.length + n ≤ M) (he : e = plc M f qs.length) (hk : k = min n (M - e)) :
    Holds (splice (splice pl e (zs.take k)) 0 (zs.drop k)) M f (qs ++ zs) := by
  obtain ⟨h1, h2, h3, h4, h5⟩ := h
  have hl1 : (zs.take k).length = k := by rw [List.length_take]; omega
  have hl2 : (zs.drop k).length = n - k := by rw [List.length_drop]; omega
  have heM : e ≤ M := by rw [he]; exact plc_le
  have hs1 : (splice pl e (zs.take k)).length = M := by rw [length_splice _ _ _ (by rw [hl1]; omega), h1]
  refine ⟨by rw [length_splice _ _ _ (by rw [hl2, hs1]; omega), hs1], by rw [List.length_append]; omega, h3, h4, fun j hj => ?_⟩
  rw [List.length_append] at hj
  have hM : f < M := h4 (by omega)
  have hz1 : ∀ i, i < k → (zs.take k).getD i 0 = zs.getD i 0 := fun i hi => by simp [List.getD_eq_getElem?_getD, List.getElem?_take, hi]
  have hz2 : ∀ i, (zs.drop k).getD i 0 = zs.getD (k + i) 0 := fun i => by simp [List.getD_eq_getElem?_getD, List.getElem?_drop]
  rw [getD_splice _ _ _ _ (by rw [hl2, hs1]; omega), hl2, getD_splice _ _ _ _ (by rw [hl1]; omega), hl1]
  have hev : (f + qs.length < M ∧ e = f + qs.length) ∨ (M ≤ f + qs.length ∧ e = f + qs.length - M) := by
    by_cases hc : f + qs.length < M
    · exact .inl ⟨hc, by rw [he, plc_lo hc]⟩
    · exact .inr ⟨by omega, by rw [he, plc_hi (by omega) (by omega)]⟩
  by_cases hj1 : j < qs.length
  · have hv := h5 j hj1
    have hp : (f + j < M ∧ plc M f j = f + j) ∨ (M ≤ f + j ∧ plc M f j = f + j - M) := by
      by_cases hc : f + j < M
      · exact .inl ⟨hc, plc_lo hc⟩
      · exact .inr ⟨by omega, plc_hi (by omega) (by omega)⟩
    rw [if_neg (by omega), if_neg (by omega), hv]
    simp [List.getD_eq_getElem?_getD, List.getElem?_append_left hj1]
  · have hq : (qs ++ zs).getD j 0 = zs.getD (j - qs.length) 0 := by
      simp [List.getD_eq_getElem?_getD, List.getElem?_append_right (show qs.length ≤ j by omega)]
    have hp : (f + j < M ∧ plc M f j = f + j) ∨ (M ≤ f + j ∧ plc M f j = f + j - M) := by
      by_cases hc : f + j < M
      · exact .inl ⟨hc, plc_lo hc⟩
      · exact .inr ⟨by omega, plc_hi (by omega) (by omega)⟩
    rw [hq]
    by_cases hlo : j - qs.length < k
    · rw [if_neg (by omega), if_pos (by omega), hz1 _ (by omega)]
      congr 1
      omega
    · rw [if_pos (by omega), hz2]
      congr 1
      omega

/-- Only blocks of S, and what was made since, may have turned. -/
structure Off (S : Nat → Prop) (w w' : World) : Prop where
  os : w'.os = w.os
  tape : w'.tape = w.tape
  output : w'.output = w.output
  size : w.heap.size ≤ w'.heap.size
  block : ∀ k, k < w.heap.size → ¬ S k → w'.heap[k]? = w.heap[k]?

theorem Off.refl (S : Nat → Prop) (w : World) : Off S w w := ⟨rfl, rfl, rfl, Nat.le_refl _, fun _ _ _ => rfl⟩
theorem Off.trans {S T : Nat → Prop} {a b c : World} (h : Off S a b) (k : Off T b c) (hT : ∀ i, T i → S i ∨ a.heap.size ≤ i) : Off S a c :=
  ⟨k.os.trans h.os, k.tape.trans h.tape, k.output.trans h.output, Nat.le_trans h.size k.size, fun i hi hs => (k.block i (Nat.lt_of_lt_of_le hi h.size) (fun ht => by
    rcases hT i ht with h1 | h1
    · exact hs h1
    · omega)).trans (h.block i hi hs)⟩
theorem Off.mono {S T : Nat → Prop} {w w' : World} (h : Off S w w') (hT : ∀ i, S i → T i) : Off T w w' := ⟨h.os, h.tape, h.output, h.size, fun k hk ht => h.block k hk (fun hs => ht (hT k hs))⟩
theorem Off.of_below {S : Nat → Prop} {w w' : World} (h : Below w.heap.size w w') : Off S w w' := ⟨h.os, h.tape, h.output, h.size, fun k hk _ => h.block k hk⟩
theorem Off.below {S : Nat → Prop} {w w' : World} {B : Nat} (h : Off S w w') (hB : B ≤ w.heap.size) (hS : ∀ k, k < B → ¬ S k) : Below B w w' := ⟨h.os, h.tape, h.output, h.size, fun k hk => h.block k (by omega) (hS k hk)⟩
theorem Off.then {S : Nat → Prop} {a b c : World} (h : Off S a b) (k : Below b.heap.size b c) : Off S a c := h.trans (T := fun _ => False) (Off.of_below k) (fun _ hi => hi.elim)
theorem Off.alloc {S : Nat → Prop} {a w : World} (h : Off S a w) (o : Obj) : Off S a (w.alloc o) := h.then ((Below.refl _ _).alloc (Nat.le_refl _) o)
theorem Off.drewN {S : Nat → Prop} {a w : World} (h : Off S a w) (d : Nat) : Off S a (w.drewN d) := ⟨h.os, h.tape, h.output, h.size, h.block⟩
theorem Off.drew {S : Nat → Prop} {a w : World} (h : Off S a w) : Off S a w.drew := ⟨h.os, h.tape, h.output, h.size, h.block⟩
theorem Off.setCell {S : Nat → Prop} {a w : World} (h : Off S a w) {p : Addr} (hp : S p.block ∨ a.heap.size ≤ p.block) (u : Value) : Off S a (w.setCell p u) :=
  h.trans (T := fun k => k = p.block) ⟨rfl, rfl, rfl, by simp [World.setCell], fun k hk hs => Below.heap_setCell w p u k hs⟩ (fun i hi => by subst hi; exact hp)
theorem Off.cell {S : Nat → Prop} {w w' : World} (h : Off S w w') {p : Addr} (hp : p.block < w.heap.size) (hs : ¬ S p.block) : w'.cell? p = w.cell? p := World.cell?_of_block (w := w) (h.block p.block hp hs)
theorem Off.frozen {S : Nat → Prop} {w w' : World} (h : Off S w w') {p : Addr} (hp : p.block < w.heap.size) (hs : ¬ S p.block) : w'.frozen? p = w.frozen? p := World.frozen?_of_block (w := w) (h.block p.block hp hs)
theorem Off.whole {S : Nat → Prop} {w w' : World} {g : Nat} {t : TypeId} {vs : List Value} (h : Off S w w') (hg : WholeV w g t vs) (hs : ¬ S g) : WholeV w' g t vs := (h.block g hg.lt hs).trans hg
theorem Off.wholeI {S : Nat → Prop} {w w' : World} {g : Nat} {k : IntKind} {t : TypeId} {zs : List Int} (h : Off S w w') (hg : Whole k w g t zs) (hs : ¬ S g) : Whole k w' g t zs := (h.block g hg.lt hs).trans hg
theorem Off.own {S : Nat → Prop} {w w' : World} {b : Nat} {e : TypeId} {v : Value} {n : Nat} {xs : List Value} (h : Off S w w') (ho : w.ownsRow b e 1 v n xs) (hs : ∀ k, b ≤ k → k < w.heap.size → ¬ S k) : w'.ownsRow b e 1 v n xs := by
  refine ⟨ho.1, ?_⟩
  rcases ho.2 with h0 | ⟨g, cap, cur, hv, hg, hh, rest⟩
  · exact .inl h0
  · have hlt : g < w.heap.size := by
      rcases Nat.lt_or_ge g w.heap.size with hlt | hge
      · exact hlt
      · rw [Array.getElem?_eq_none hge] at hh; cases hh
    exact .inr ⟨g, cap, cur, hv, hg, (h.block g hlt (hs g hg hlt)).trans hh, rest⟩
theorem Off.grown {S : Nat → Prop} {a w w' : World} {row : Option Nat} (h : Off S a w) (hg : w.grownBy w' row) (hr : ∀ k, row = some k → S k ∨ a.heap.size ≤ k) : Off S a w' :=
  h.trans (T := fun k => row = some k) ⟨hg.os, hg.tape, hg.output, hg.size, fun k hk hs => hg.block k hk (fun e => hs e.symm)⟩ (fun i hi => hr i hi)

/-- A slice that reads as the bytes zs, in a block that S has not. -/
def RowOff (w : World) (S : Nat → Prop) (A : Option Addr) (n : Nat) (zs : List Int) : Prop :=
  zs.length = n ∧ (0 < n → ∃ b off, A = some ⟨b, off, none⟩ ∧ b < w.heap.size ∧ ¬ S b ∧ ∀ j, j < n → w.cell? ⟨b, off + j, none⟩ = some (.int .u8 (zs.getD j 0)))
theorem RowOff.off {S T : Nat → Prop} {w w' : World} {A : Option Addr} {n : Nat} {zs : List Int} (h : RowOff w S A n zs) (ho : Off T w w') (hT : ∀ k, T k → S k) : RowOff w' S A n zs :=
  ⟨h.1, fun h0 => by
    obtain ⟨b, off, e, hb, hs, hc⟩ := h.2 h0
    exact ⟨b, off, e, Nat.lt_of_lt_of_le hb ho.size, hs, fun j hj => (ho.cell (p := ⟨b, off + j, none⟩) hb (fun ht => hs (hT b ht))).trans (hc j hj)⟩⟩
theorem RowOff.row {S : Nat → Prop} {w : World} {A : Option Addr} {n : Nat} {zs : List Int} (h : RowOff w S A n zs) : Row .u8 w w.heap.size A n zs :=
  ⟨h.1, fun h0 => by
    obtain ⟨b, off, e, hb, hs, hc⟩ := h.2 h0
    exact ⟨b, off, e, hb, hc⟩⟩
theorem RowOff.of_row {S : Nat → Prop} {w : World} {B : Nat} {A : Option Addr} {n : Nat} {zs : List Int} (h : Row .u8 w B A n zs) (hB : B ≤ w.heap.size) (hS : ∀ k, k < B → ¬ S k) : RowOff w S A n zs :=
  ⟨h.1, fun h0 => by
    obtain ⟨b, off, e, hb, hc⟩ := h.2 h0
    exact ⟨b, off, e, by omega, hS b hb, hc⟩⟩
theorem RowOff.of_whole {S : Nat → Prop} {w : World} {g n : Nat} {t : TypeId} {zs ys : List Int} (h : Whole .u8 w g t (zs ++ ys)) (hn : zs.length = n) (hS : ¬ S g) : RowOff w S (some ⟨g, 0, none⟩) n zs :=
  ⟨hn, fun h0 => ⟨g, 0, rfl, h.lt, hS, fun j hj => by
    rw [Nat.zero_add, h.cell j (by rw [List.length_append]; omega)]
    simp [List.getD_eq_getElem?_getD, List.getElem?_append_left (show j < zs.length by omega)]⟩⟩

/-- A slice of some bytes of a row: from k on, m of them. -/
theorem RowOff.part {S : Nat → Prop} {w : World} {A : Option Addr} {n : Nat} {zs : List Int} (h : RowOff w S A n zs) (k m : Nat) (hm : 0 < m) (hk : k + m ≤ n) :
    ∃ ad : Addr, A = some ad ∧ ∀ j v, (((zs.drop k).take m).map (Value.int .u8))[j]? = some v → w.cell? ((ad.add k).add j) = some v := by
  obtain ⟨b, off, e, hb, hs, hc⟩ := h.2 (by omega)
  refine ⟨⟨b, off, none⟩, e, fun j v hv => ?_⟩
  have hl := h.1
  rw [add_none, add_none]
  rw [List.getElem?_map, List.getElem?_take] at hv
  by_cases hj : j < m
  · rw [if_pos hj, List.getElem?_drop, List.getElem?_eq_getElem (by omega)] at hv
    have := hc (k + j) (by omega)
    rw [Nat.add_assoc, this]
    rw [← hv, List.getD_eq_getElem?_getD, List.getElem?_eq_getElem (by omega)]
    rfl
  · rw [if_neg hj] at hv
    cases hv

/-- copy into a block whose place is given: only that block turns. -/
theorem wpList_copy_at {P : Program} {w : World} {ops : Array Oper} {rest : List Oper} {o : Oper} {a : Act} {Q : Exit → Act → World → Prop} (hgd : o.guard = none) (d s : Operand) (dT sT : TypeId)
    (ho : o.op = .call { callee := .builtin .copy, args := #[d, s], argTypes := #[dT, sT] }) (elem : TypeId) (hu : P.underlying dT = some (.slice elem)) (hsz : (P.info? elem).map (·.size) = some 1)
    (dp sp : Option Addr) (dLen dCap sLen sCap : Nat) (hd : a.eval d = .slice dp dLen dCap) (hs : a.eval s = .slice sp sLen sCap)
    (g off : Nat) (cur : List Value) (t : TypeId) (hg : w.heap[g]? = some (.cells cur.toArray t (0, 0))) (cs : List Value) (n : Nat) (hl : cs.length = n) (hn : n = Nat.min sLen dLen)
    (hpos : 0 < n → dp = some ⟨g, off, none⟩ ∧ ∃ ad, sp = some ad ∧ ∀ j v, cs[j]? = some v → w.cell? (ad.add j) = some v)
    (hfit : off + n ≤ cur.length) (h1 : ∀ v ∈ cs, v.oneCell' = true)
    (h : ∀ w', Hid (w'.heap[g]? = some (.cells (splice cur off cs).toArray t (0, 0))) → Off (fun k => k = g) w w' → wpList P ops Q rest (a.put o.dst (goInt n)) w') :
    wpList P ops Q (o :: rest) a w := by
  subst hl
  by_cases h0 : cs.length = 0
  · obtain rfl : cs = [] := List.eq_nil_of_length_eq_zero h0
    refine wpList_copy_nothing hgd d s dT sT ho elem hu hsz dp sp dLen dCap sLen sCap hd hs (by simpa using hn.symm) ?_
    exact h w (show _ = _ by simpa [splice] using hg) (Off.refl _ _)
  · obtain ⟨rfl, ad, rfl, hsrc⟩ := hpos (by omega)
    refine wpList_copy_own hgd d s dT sT ho elem hu hsz g off dLen dCap ad sLen sCap hd hs cur.toArray t hg cs hn hsrc (by simpa using hfit) h1 ?_
    exact h _ (show _ = _ by simpa [splice] using setRow_heap w g _ _ t _ hg) ⟨rfl, rfl, rfl, by simp [World.setRow], fun k hk hs => setRow_other w g k _ hs⟩

/-- The same as a step of a region that draws its order. -/
theorem step_copy_at {P : Program} {ops : Array Oper} {o : Oper} {a : Act} {w : World} {K : Act → World → Prop} {Q : Exit → Act → World → Prop} {E : Prop} (hgd : o.guard = none) (d s : Operand) (dT sT : TypeId)
    (ho : o.op = .call { callee := .builtin .copy, args := #[d, s], argTypes := #[dT, sT] }) (elem : TypeId) (hu : P.underlying dT = some (.slice elem)) (hsz : (P.info? elem).map (·.size) = some 1)
    (dp sp : Option Addr) (dLen dCap sLen sCap : Nat) (hd : a.eval d = .slice dp dLen dCap) (hs : a.eval s = .slice sp sLen sCap)
    (g off : Nat) (cur : List Value) (t : TypeId) (hg : w.heap[g]? = some (.cells cur.toArray t (0, 0))) (cs : List Value) (n : Nat) (hl : cs.length = n) (hn : n = Nat.min sLen dLen)
    (hpos : 0 < n → dp = some ⟨g, off, none⟩ ∧ ∃ ad, sp = some ad ∧ ∀ j v, cs[j]? = some v → w.cell? (ad.add j) = some v)
    (hfit : off + n ≤ cur.length) (h1 : ∀ v ∈ cs, v.oneCell' = true)
    (h : ∀ w', Hid (w'.heap[g]? = some (.cells (splice cur off cs).toArray t (0, 0))) → Off (fun k => k = g) w w' → K (a.put o.dst (goInt n)) w') :
    if Region.wanted o (yielded ops a.tmps) = true then Oper.wp P o a w K Q else E := by
  subst hl
  have hw : Region.wanted o (yielded ops a.tmps) = true := by simp [Region.wanted, hgd]
  rw [if_pos hw]
  by_cases h0 : cs.length = 0
  · obtain rfl : cs = [] := List.eq_nil_of_length_eq_zero h0
    have hrun := run_copy_none (P := P) w dT sT o.type elem dp sp dLen dCap sLen sCap hu hsz (by simpa using hn.symm)
    unfold Oper.wp
    simp [execOp, ho, resolve, invoke, builtin, hd, hs, hrun, Result.andThen]
    exact h w (show _ = _ by simpa [splice] using hg) (Off.refl _ _)
  · obtain ⟨rfl, ad, rfl, hsrc⟩ := hpos (by omega)
    have hrun := run_copy_row (P := P) w dT sT o.type elem g off dLen dCap ad sLen sCap cur.toArray t cs hu hsz hg hn hsrc (by simpa using hfit) h1
    unfold Oper.wp
    simp [execOp, ho, resolve, invoke, builtin, hd, hs, hrun, Result.andThen]
    exact h _ (show _ = _ by simpa [splice] using setRow_heap w g _ _ t _ hg) ⟨rfl, rfl, rfl, by simp [World.setRow], fun k hk hs => setRow_other w g k _ hs⟩

/-- A cell: its table, its address, its value. -/
abbrev Ce := Int × Int × Int
def ce0 : Ce := (0, 0, 0)
def ces (cs : List Ce) : List Value := cs.flatMap fun c => [.int .i64 c.1, .int .i64 c.2.1, .int .u16 c.2.2]
theorem ces_cons (c : Ce) (cs : List Ce) : ces (c :: cs) = .int .i64 c.1 :: .int .i64 c.2.1 :: .int .u16 c.2.2 :: ces cs := rfl
theorem ces_append (cs ds : List Ce) : ces (cs ++ ds) = ces cs ++ ces ds := by simp [ces]
theorem ces_length (cs : List Ce) : (ces cs).length = 3 * cs.length := by
  induction cs with
  | nil => rfl
  | cons c cs ih => rw [ces_cons, List.length_cons, List.length_cons, List.length_cons, List.length_cons, ih]; omega
theorem ces_at (cs : List Ce) (k : Nat) (h : k < cs.length) : (ces cs)[3 * k]? = some (.int .i64 (cs.getD k ce0).1) ∧ (ces cs)[3 * k + 1]? = some (.int .i64 (cs.getD k ce0).2.1) ∧ (ces cs)[3 * k + 2]? = some (.int .u16 (cs.getD k ce0).2.2) := by
  induction cs generalizing k with
  | nil => simp at h
  | cons c cs ih =>
    cases k with
    | zero => exact ⟨rfl, rfl, rfl⟩
    | succ k =>
      obtain ⟨h1, h2, h3⟩ := ih k (by simpa using h)
      rw [ces_cons, show 3 * (k + 1) = 3 * k + 1 + 1 + 1 by omega, show 3 * k + 1 + 1 + 1 + 1 = (3 * k + 1) + 1 + 1 + 1 by omega, show 3 * k + 1 + 1 + 1 + 2 = (3 * k + 2) + 1 + 1 + 1 by omega]
      simp only [List.getElem?_cons_succ]
      exact ⟨h1, h2, h3⟩
theorem ces_one (cs : List Ce) : ∀ u ∈ ces cs, u.oneCell' = true := by
  intro u hu
  obtain ⟨c, _, hc⟩ := List.mem_flatMap.1 hu
  simp at hc
  rcases hc with rfl | rfl | rfl <;> rfl
theorem ces_take (cs : List Ce) (k : Nat) : ces (cs.take k) = (ces cs).take (3 * k) := by
  induction cs generalizing k with
  | nil => simp [ces]
  | cons c cs ih =>
    cases k with
    | zero => rfl
    | succ k => rw [List.take_succ_cons, ces_cons, ces_cons, show 3 * (k + 1) = 3 * k + 1 + 1 + 1 by omega, List.take_succ_cons, List.take_succ_cons, List.take_succ_cons, ih]
theorem ces_drop (cs : List Ce) (k : Nat) : ces (cs.drop k) = (ces cs).drop (3 * k) := by
  induction cs generalizing k with
  | nil => simp [ces]
  | cons c cs ih =>
    cases k with
    | zero => rfl
    | succ k => rw [List.drop_succ_cons, ces_cons, show 3 * (k + 1) = 3 * k + 1 + 1 + 1 by omega, List.drop_succ_cons, List.drop_succ_cons, List.drop_succ_cons, ih]

/-- Values that a word holds. -/
def Fit16 (cs : List Ce) : Prop := ∀ c ∈ cs, 0 ≤ c.2.2 ∧ c.2.2 ≤ 65535
theorem Fit16.at_ {cs : List Ce} (h : Fit16 cs) (k : Nat) : 0 ≤ (cs.getD k ce0).2.2 ∧ (cs.getD k ce0).2.2 ≤ 65535 := by
  by_cases hk : k < cs.length
  · have e : cs.getD k ce0 = cs[k] := by simp [hk]
    rw [e]
    exact h _ (List.getElem_mem hk)
  · have e : cs.getD k ce0 = ce0 := by simp [Nat.le_of_not_lt hk]
    rw [e]
    exact ⟨by decide, by decide⟩
theorem Fit16.append {cs ds : List Ce} (h : Fit16 cs) (k : Fit16 ds) : Fit16 (cs ++ ds) := fun c hc => (List.mem_append.1 hc).elim (h c) (k c)
theorem Fit16.take {cs : List Ce} (h : Fit16 cs) (k : Nat) : Fit16 (cs.take k) := fun c hc => h c (List.mem_of_mem_take hc)
theorem Fit16.drop {cs : List Ce} (h : Fit16 cs) (k : Nat) : Fit16 (cs.drop k) := fun c hc => h c (List.mem_of_mem_drop hc)

/-- A slice of n cells, which are these. -/
def CeR (w : World) (A : Option Addr) (n : Nat) (cs : List Ce) : Prop := RowV w w.heap.size A (3 * n) (ces cs)
/-- A slice of n cells, whatever they are; it lies above block g. -/
def CL (w : World) (g : Nat) (A : Option Addr) (n : Nat) : Prop := ∃ cs, Fit16 cs ∧ CeR w A n cs ∧ (0 < n → ∃ b off, A = some ⟨b, off, none⟩ ∧ g < b)
theorem CeR.len {w : World} {A : Option Addr} {n : Nat} {cs : List Ce} (h : CeR w A n cs) : cs.length = n := by
  have := h.1
  rw [ces_length] at this
  omega
theorem CL.at_ {w : World} {g : Nat} {A : Option Addr} {n : Nat} (h : CL w g A n) (k : Nat) (hk : k < n) : ∃ b off t a v, A = some ⟨b, off, none⟩ ∧ g < b ∧ b < w.heap.size ∧ 0 ≤ v ∧ v ≤ 65535 ∧ w.cell? ⟨b, off + k * 3, none⟩ = some (.int .i64 t) ∧ w.cell? ⟨b, off + k * 3 + 1, none⟩ = some (.int .i64 a) ∧ w.cell? ⟨b, off + k * 3 + 2, none⟩ = some (.int .u16 v) := by
  obtain ⟨cs, hf, hr, hg⟩ := h
  obtain ⟨b, off, hA, hb, hc⟩ := hr.2 (by omega)
  obtain ⟨b', off', hA', hg'⟩ := hg (by omega)
  rw [hA] at hA'
  injection hA' with e
  injection e with e1 e2
  subst e1 e2
  have hl := hr.len
  obtain ⟨h1, h2, h3⟩ := ces_at cs k (by omega)
  refine ⟨b, off, (cs.getD k ce0).1, (cs.getD k ce0).2.1, (cs.getD k ce0).2.2, hA, hg', hb, (hf.at_ k).1, (hf.at_ k).2, ?_, ?_, ?_⟩
  · rw [Nat.mul_comm k 3, hc _ (by omega)]; exact h1
  · rw [Nat.mul_comm k 3, Nat.add_assoc, hc _ (by omega)]; exact h2
  · rw [Nat.mul_comm k 3, Nat.add_assoc, hc _ (by omega)]; exact h3
theorem CL.nil (w : World) (g : Nat) : CL w g none 0 := ⟨[], fun _ h => (List.not_mem_nil h).elim, RowV.nil, fun h => absurd h (by omega)⟩
theorem CL.off {w w' : World} {g : Nat} {A : Option Addr} {n : Nat} {S : Nat → Prop} (h : CL w g A n) (ho : Off S w w') (hS : ∀ k, S k → k ≤ g) : CL w' g A n := by
  obtain ⟨cs, hf, hr, hg⟩ := h
  refine ⟨cs, hf, ⟨hr.1, fun h0 => ?_⟩, hg⟩
  obtain ⟨b, off, hA, hb, hc⟩ := hr.2 h0
  obtain ⟨b', off', hA', hg'⟩ := hg (by omega)
  rw [hA] at hA'
  injection hA' with e
  injection e with e1 e2
  subst e1 e2
  refine ⟨b, off, hA, Nat.lt_of_lt_of_le hb ho.size, fun j hj => ?_⟩
  rw [ho.cell (p := ⟨b, off + j, none⟩) hb (fun h => by have := hS b h; omega)]
  exact hc j hj
theorem CL.below {w w' : World} {g : Nat} {A : Option Addr} {n : Nat} (h : CL w g A n) (hb : Below w.heap.size w w') : CL w' g A n := h.off (S := fun _ => False) (Off.of_below hb) (fun _ h => h.elim)
theorem CL.low {w : World} {g g' : Nat} {A : Option Addr} {n : Nat} (h : CL w g A n) (hg : g' ≤ g) : CL w g' A n := by
  obtain ⟨cs, hf, hr, k⟩ := h
  exact ⟨cs, hf, hr, fun h0 => by obtain ⟨b, off, h1, h2⟩ := k h0; exact ⟨b, off, h1, by omega⟩⟩

theorem CeR.take {w : World} {A : Option Addr} {n : Nat} {cs : List Ce} (h : CeR w A n cs) (k : Nat) (hk : k ≤ n) : CeR w A k (cs.take k) := by
  have hl := h.len
  refine ⟨by rw [ces_length, List.length_take]; omega, fun h0 => ?_⟩
  obtain ⟨b, off, hA, hb, hc⟩ := h.2 (by omega)
  refine ⟨b, off, hA, hb, fun j hj => ?_⟩
  rw [hc j (by omega), ces_take, List.getElem?_take, if_pos hj]
theorem CeR.drop {w : World} {b off n : Nat} {cs : List Ce} (h : CeR w (some ⟨b, off, none⟩) n cs) (k : Nat) (hk : k ≤ n) : CeR w (some ⟨b, off + k * 3, none⟩) (n - k) (cs.drop k) := by
  have hl := h.len
  refine ⟨by rw [ces_length, List.length_drop]; omega, fun h0 => ?_⟩
  obtain ⟨b', off', hA, hb, hc⟩ := h.2 (by omega)
  injection hA with e
  injection e with e1 e2
  subst e1 e2
  refine ⟨b, off + k * 3, rfl, hb, fun j hj => ?_⟩
  rw [Nat.add_assoc, hc (k * 3 + j) (by omega), ces_drop, List.getElem?_drop, Nat.mul_comm k 3]
theorem CeR.none {w : World} {A : Option Addr} : CeR w A 0 [] := RowV.nil
theorem CeR.below {w w' : World} {A : Option Addr} {n : Nat} {cs : List Ce} (h : CeR w A n cs) (hb : Below w.heap.size w w') : CeR w' A n cs := (RowV.below h hb).more hb.size
theorem cer_one (X : World) (t a v : Int) (T : TypeId) : CeR (X.alloc (.cells #[.int .i64 t, .int .i64 a, .int .u16 v] T)) (some ⟨X.heap.size, 0, Option.none⟩) 1 [(t, a, v)] := by
  have h0 : WholeV (X.alloc (.cells #[.int .i64 t, .int .i64 a, .int .u16 v] T)) X.heap.size T [.int .i64 t, .int .i64 a, .int .u16 v] := heap_alloc_new X _
  exact h0.row
theorem Fit16.one {t a v : Int} (h0 : 0 ≤ v) (h1 : v ≤ 65535) : Fit16 [(t, a, v)] := fun c hc => by
  obtain rfl := List.mem_singleton.1 hc
  exact ⟨h0, h1⟩

theorem infoC : (Try.prog.info? 72).map (fun i => (i.zero, i.size, i.bytes)) = some (some (.agg #[.int .i64 0, .int .i64 0, .int .u16 0]), 3, 24) := by kernel_rfl
/-- A row of cells of the call's own. -/
def CO (w : World) (base : Nat) (v : Value) (n : Nat) : Prop := ∃ cs, Fit16 cs ∧ w.ownsRow base 72 3 v n (ces cs)
theorem CO.nil (w : World) (base : Nat) : CO w base (.slice none 0 0) 0 := ⟨[], fun _ h => (List.not_mem_nil h).elim, by simp [ces], .inl ⟨rfl, rfl⟩⟩
theorem CO.slice {w : World} {base : Nat} {v : Value} {n : Nat} (h : CO w base v n) : ∃ A c, v = .slice A n c := by
  obtain ⟨cs, _, h⟩ := h
  rcases h.2 with ⟨rfl, rfl⟩ | ⟨g', cap, cur, rfl, hb, _⟩
  · exact ⟨Option.none, 0, rfl⟩
  · exact ⟨_, _, rfl⟩
theorem CO.ge {w : World} {base : Nat} {v : Value} {n : Nat} (h : CO w base v n) : ∀ g, v.ownBlock = some g → base ≤ g := by
  obtain ⟨cs, _, h⟩ := h
  intro g hg
  rcases h.2 with ⟨rfl, _⟩ | ⟨g', cap, cur, rfl, hb, _⟩
  · simp [Value.ownBlock] at hg
  · have : g' = g := by simpa [Value.ownBlock] using hg
    omega
theorem CO.keep {w w' : World} {b : Nat} {v : Value} {n : Nat} (h : CO w b v n) (hb : Below w.heap.size w w') : CO w' b v n := by
  obtain ⟨cs, hf, h⟩ := h
  refine ⟨cs, hf, h.1, ?_⟩
  rcases h.2 with h0 | ⟨g, cap, cur, hv, hg, hh, rest⟩
  · exact .inl h0
  · refine .inr ⟨g, cap, cur, hv, hg, (hb.block g ?_).trans hh, rest⟩
    rcases Nat.lt_or_ge g w.heap.size with hlt | hge
    · exact hlt
    · rw [Array.getElem?_eq_none hge] at hh; cases hh
theorem CO.mono {w : World} {b b' : Nat} {v : Value} {n : Nat} (h : CO w b v n) (hb : b' ≤ b) : CO w b' v n := by
  obtain ⟨cs, hf, h⟩ := h
  refine ⟨cs, hf, h.1, ?_⟩
  rcases h.2 with h0 | ⟨g, cap, cur, hv, hg, rest⟩
  · exact .inl h0
  · exact .inr ⟨g, cap, cur, hv, Nat.le_trans hb hg, rest⟩
theorem CO.cl {w : World} {base g n c : Nat} {A : Option Addr} (h : CO w base (.slice A n c) n) (hg : g < base) : CL w g A n := by
  obtain ⟨cs, hf, h⟩ := h
  have hl := h.1
  rcases h.2 with ⟨hv, h0⟩ | ⟨k, cap, cur, hv, hb, hh, hnc, _, hcs, ht⟩
  · subst h0
    obtain rfl : cs = [] := by
      cases cs with
      | nil => rfl
      | cons c cs => rw [ces_cons] at hl; simp at hl
    exact ⟨[], hf, RowV.nil, fun h => absurd h (by omega)⟩
  · injection hv with h1 h2 h3
    subst h1 h3
    have hk : k < w.heap.size := by
      rcases Nat.lt_or_ge k w.heap.size with hlt | hge
      · exact hlt
      · rw [Array.getElem?_eq_none hge] at hh; cases hh
    refine ⟨cs, hf, ⟨by omega, fun h0 => ⟨k, 0, rfl, hk, fun j hj => ?_⟩⟩, fun _ => ⟨k, 0, rfl, by omega⟩⟩
    rw [Nat.zero_add, cell_of_row w k j _ _ _ hh]
    have h1 : (List.take (n * 3) cur.toList)[j]? = (ces cs)[j]? := by rw [ht]
    rw [List.getElem?_take, if_pos (by omega)] at h1
    rw [← Array.getElem?_toList, h1]
theorem CO.cap {w : World} {base n c : Nat} {A : Option Addr} (h : CO w base (.slice A n c) n) : n ≤ c := by
  obtain ⟨cs, _, h⟩ := h
  rcases h.2 with ⟨h1, h2⟩ | ⟨g', cap, cur, h1, hb, hh, hnc, _⟩
  · omega
  · injection h1 with _ _ h3
    omega
theorem below_co {B : Nat} {w w0 w' : World} {v : Value} {n : Nat} (hb : Below B w0 w) (h : CO w B v n) (hg : w.grownBy w' v.ownBlock) (hB : B ≤ w.heap.size) : Below B w0 w' := hb.grown hg hB h.ge

set_option maxRecDepth 100000 in
/-- append of a list of cells onto one of the call's own. -/
theorem run_append_ces (w : World) (base : Nat) (ty : TypeId) (v : Value) (n : Nat) (hown : CO w base v n)
    (A : Option Addr) (m c : Nat) (os : List Ce) (hf : Fit16 os) (hr : CeR w A m os) (hm : n + m ≤ 1000000) (hbase : base ≤ w.heap.size) :
    ∃ v' w', (Builtin.append_ #[42, 42] ty #[v, .slice A m c]).run Try.prog w = .ok v' w' ∧ CO w' base v' (n + m) ∧ w.grownBy w' v.ownBlock := by
  obtain ⟨xs, hfx, hown⟩ := hown
  obtain ⟨i0, hi0, hz0, hz1, hz2⟩ := info_parts infoC
  have ht := Try.underlying42
  rcases A with _ | ad
  · have h0 : m = 0 := by
      rcases Nat.eq_zero_or_pos m with h0 | h0
      · exact h0
      · obtain ⟨b, off, h, _⟩ := hr.2 (by omega)
        cases h
    subst h0
    refine ⟨v, w, ?_, ⟨xs, hfx, by simpa using hown⟩, World.grownBy.refl w _⟩
    rcases hown.2 with ⟨rfl, rfl⟩ | ⟨g, cap, cur, rfl, _, _, hnc, _⟩
    · simp [Builtin.append_, run_underlying ht, sizeOf, typeInfo, hi0, Builtin.lenOf, Builtin.firstCells]
    · simp [Builtin.append_, run_underlying ht, sizeOf, typeInfo, hi0, Builtin.lenOf, Builtin.firstCells, hnc, storeCells]
  · have hcells : ∀ j u, (ces os)[j]? = some u → w.cell? (ad.add j) = some u := by
      intro j u hu
      have hj : j < (ces os).length := (List.getElem?_eq_some_iff.1 hu).1
      rw [ces_length, hr.len] at hj
      obtain ⟨b, off, h, _, hc⟩ := hr.2 (by omega)
      injection h with h
      subst h
      rw [add_none, hc j hj]
      exact hu
    obtain ⟨v', w', hrun, h2, h3, _, h5⟩ := run_append_own_at (P := Try.prog) w base 42 ty 72 i0 _ 3 24 ht hi0 hz0 hz1 hz2 rfl (by decide) v n (ces xs) hown ad m c (ces os) (by rw [ces_length, hr.len]; omega) hcells (ces_one _) (by simp only [maxLen]; omega) (by omega) hbase
    exact ⟨v', w', hrun, ⟨xs ++ os, hfx.append hf, by rw [ces_append]; exact h2⟩, h3⟩
set_option maxRecDepth 100000 in
theorem wpList_append_ces {w : World} {ops : Array Oper} {rest : List Oper} {o : Oper} {a : Act} {Q : Exit → Act → World → Prop} (hgd : o.guard = none) (s x : Operand)
    (ho : o.op = .call { callee := .builtin .append, args := #[s, x], argTypes := #[42, 42] })
    (base : Nat) (v : Value) (n nm : Nat) (hs : a.eval s = v) (hown : CO w base v n)
    (A : Option Addr) (m c : Nat) (hnm : n + m = nm) (os : List Ce) (hf : Fit16 os) (hx : a.eval x = .slice A m c) (hr : CeR w A m os) (hm : n + m ≤ 1000000) (hbase : base ≤ w.heap.size)
    (h : ∀ A' c' w', CO w' base (.slice A' nm c') nm → w.grownBy w' v.ownBlock → wpList Try.prog ops Q rest (a.put o.dst (.slice A' nm c')) w') : wpList Try.prog ops Q (o :: rest) a w := by
  subst hnm
  refine wpList_plain hgd fun _ hK => ?_
  obtain ⟨v', w', hrun, h2, h3⟩ := run_append_ces w base o.type v n hown A m c os hf hr hm hbase
  obtain ⟨A', c', rfl⟩ := h2.slice
  unfold Oper.wp execOp
  simp only [ho, resolve, invoke, builtin, Sem.run_bind, Sem.run_pure, Result.andThen_ok, List.map_toArray, List.map_cons, List.map_nil, hs, hx, hrun]
  exact hK _ _ (h A' c' w' h2 h3)
/-- The same as a step of a region that draws its order. -/
theorem step_append_ces {w : World} {ops : Array Oper} {o : Oper} {a : Act} {K : Act → World → Prop} {Q : Exit → Act → World → Prop} {E : Prop} (s x : Operand)
    (base : Nat) (v : Value) (n m nm : Nat) (os : List Ce) (hf : Fit16 os) (hnm : n + m = nm) (hm : n + m ≤ 1000000)
    (ho : o.guard = none ∧ o.op = .call { callee := .builtin .append, args := #[s, x], argTypes := #[42, 42] } ∧ a.eval s = v)
    (hown : CO w base v n) (hr : ∃ A c, a.eval x = .slice A m c ∧ CeR w A m os) (hbase : base ≤ w.heap.size)
    (h : ∀ A' c' w', CO w' base (.slice A' nm c') nm → w.grownBy w' v.ownBlock → K (a.put o.dst (.slice A' nm c')) w') :
    if Region.wanted o (yielded ops a.tmps) = true then Oper.wp Try.prog o a w K Q else E := by
  subst hnm
  obtain ⟨hgd, hop, hs⟩ := ho
  obtain ⟨A, c, hx, hr⟩ := hr
  have hw : Region.wanted o (yielded ops a.tmps) = true := by simp [Region.wanted, hgd]
  rw [if_pos hw]
  obtain ⟨v', w', hrun, h2, h3⟩ := run_append_ces w base o.type v n hown A m c os hf hr hm hbase
  obtain ⟨A', c', rfl⟩ := h2.slice
  unfold Oper.wp execOp
  simp only [hop, resolve, invoke, builtin, Sem.run_bind, Sem.run_pure, Result.andThen_ok, List.map_toArray, List.map_cons, List.map_nil, hs, hx, hrun]
  exact h A' c' w' h2 h3

/-- Some bool, some place: what is answered, and that what came before is kept. -/
def SomeB (w : World) (e : Ending) (w' : World) : Prop := ∃ b, e = .returned (.bool b) ∧ Below w.heap.size w w'
def SomeP (n : Nat) (w : World) (e : Ending) (w' : World) : Prop := ∃ (k : Nat) (is : Bool), e = .returned (.tuple #[.int .i64 (k : Int), .bool is]) ∧ k ≤ n ∧ (is = true → k < n) ∧ Below w.heap.size w w'

theorem less_any (t a t' a' : Int) (w : World) :
    Calls Try.prog 82 #[.agg #[.int .i64 t, .int .i64 a], .agg #[.int .i64 t', .int .i64 a']] w (SomeB w) := by
  have hk : Below w.heap.size w ((w.alloc (.cells #[.int .i64 t, .int .i64 a] 70)).alloc (.cells #[.int .i64 t', .int .i64 a'] 70)) := ((Below.refl _ _).alloc (Nat.le_refl _) _).alloc (by simp) _
  have HK := Lib.hid hk
  clear hk
  by_cases h1 : t < t'
  · go_enter Try.func82, Try.ntmps82
    go_wp2
    go_ret
    exact ⟨_, rfl, HK.out⟩
  · by_cases h2 : t = t'
    · subst h2
      by_cases h3 : a < a'
      · go_enter Try.func82, Try.ntmps82
        go_wp2
        go_ret
        exact ⟨_, rfl, HK.out⟩
      · go_enter Try.func82, Try.ntmps82
        go_wp2
        go_ret
        exact ⟨_, rfl, HK.out⟩
    · go_enter Try.func82, Try.ntmps82
      go_wp2
      go_ret
      exact ⟨_, rfl, HK.out⟩

theorem half (lo hi : Nat) (h1 : lo < hi) : ∃ m : Nat, ((lo : Int) + (hi : Int)) / 2 = (m : Int) ∧ lo ≤ m ∧ m < hi := ⟨(lo + hi) / 2, by omega, by omega, by omega⟩

set_option maxRecDepth 100000 in
set_option maxHeartbeats 2000000 in
theorem cfind_any (g : Nat) (A : Option Addr) (n c : Nat) (t a : Int) (w : World) (h : CL w g A n) (hn : n ≤ 1000000) :
    Calls Try.prog 70 #[.slice A n c, .agg #[.int .i64 t, .int .i64 a]] w (SomeP n w) := by
  have hk : Below w.heap.size w (w.alloc (.cells #[.int .i64 t, .int .i64 a] 70)) := (Below.refl _ _).alloc (Nat.le_refl _) _
  have HK := Lib.hid hk
  have HL := Lib.hid (h.below hk)
  clear h hk
  go_enter Try.func70, Try.ntmps70
  go_wp2
  go_loopw [6, 7] (fun l r wr => ∃ lo hi : Nat, lo ≤ hi ∧ hi ≤ n ∧ l = .int .i64 (lo : Int) ∧ r = .int .i64 (hi : Int) ∧ Hid (Below w.heap.size w wr) ∧ Hid (CL wr g A n) ∧ wr.cell? ⟨w.heap.size, 0, none⟩ = some (.int .i64 t) ∧ wr.cell? ⟨w.heap.size, 1, none⟩ = some (.int .i64 a) ∧ Hid (w.heap.size < wr.heap.size)) (fun l r _ => (intOf r).toNat - (intOf l).toNat)
  case atStart =>
    have h0 := heap_alloc_new w (.cells #[.int .i64 t, .int .i64 a] 70)
    exact ⟨0, n, by omega, by omega, rfl, rfl, HK, HL, (by rw [cell_of_row _ _ _ _ _ _ h0]; rfl), (by rw [cell_of_row _ _ _ _ _ _ h0]; rfl), Lib.hid (by simp)⟩
  case round =>
    obtain ⟨lo, hi, hlh, hhn, rfl, rfl, HB, HC, hc0, hc1, HS⟩ := hrel
    by_cases hlt : lo < hi
    · have hlt' : (lo : Int) < (hi : Int) := by omega
      obtain ⟨m, hm, hm1, hm2⟩ := half lo hi hlt
      obtain ⟨b, off, ct, ca, cv, rfl, hgb, hbs, v0, v1, c0, c1, c2⟩ := HC.out.at_ m (by omega)
      have hmn : (m : Int) < (n : Int) := by omega
      have hm0 : (0 : Int) ≤ (m : Int) := by omega
      have hmN : m < n := by omega
      go_wp2
      go_region_with (first
        | (go_at_call 82
           (with_reducible refine (less_any ct ca t a wr.drew).mono ?_)
           rintro e w5 ⟨bb, rfl, hb5⟩
           have hb5' := below_from (d := 1) hb5
           have HB5 := Lib.hid (HB.out.trans (hb5'.mono HB.out.size))
           have HC5 := Lib.hid (HC.out.below hb5')
           have hd0 : w5.cell? ⟨w.heap.size, 0, none⟩ = some (.int .i64 t) := (hb5'.cell HS.out).trans hc0
           have hd1 : w5.cell? ⟨w.heap.size, 1, none⟩ = some (.int .i64 a) := (hb5'.cell HS.out).trans hc1
           have HS5 : Hid (w.heap.size < w5.heap.size) := Nat.lt_of_lt_of_le HS.out hb5'.size
           clear hb5 hb5'))
      all_goals
        cases bb
        · go_wp2
          go_roundw
          case rel => exact ⟨lo, m, by omega, by omega, rfl, rfl, HB5, HC5, hd0, hd1, HS5⟩
          case measure => simp [intOf]; omega
        · go_wp2
          go_roundw
          case rel => exact ⟨m + 1, hi, by omega, by omega, rfl, rfl, HB5, HC5, hd0, hd1, HS5⟩
          case measure => simp [intOf]; omega
    · have hge : ¬ (lo : Int) < (hi : Int) := by omega
      by_cases hln : lo < n
      · obtain ⟨b, off, ct, ca, cv, rfl, hgb, hbs, v0, v1, c0, c1, c2⟩ := HC.out.at_ lo hln
        have hln' : (lo : Int) < (n : Int) := by omega
        have hl0 : (0 : Int) ≤ (lo : Int) := by omega
        by_cases e1 : ct = t
        · subst e1
          by_cases e2 : ca = a
          · subst e2
            go_wp2
            go_quiet (fail)
            go_wp2
            go_ret2
            exact ⟨lo, true, rfl, by omega, (fun h => by omega), below_drewN HB.out _⟩
          · go_wp2
            go_quiet (fail)
            go_wp2
            go_ret2
            exact ⟨lo, false, rfl, by omega, (fun h => by omega), below_drewN HB.out _⟩
        · go_wp2
          go_quiet (fail)
          go_wp2
          go_ret2
          exact ⟨lo, false, rfl, by omega, (fun h => by omega), below_drewN HB.out _⟩
      · have hln' : ¬ (lo : Int) < (n : Int) := by omega
        go_wp2
        go_quiet (fail)
        go_wp2
        go_ret2
        exact ⟨lo, false, rfl, by omega, (fun h => by cases h), below_drewN HB.out _⟩

/-- A new list of some cells, n at most. -/
def NewCells (n : Nat) (w : World) (e : Ending) (w' : World) : Prop := ∃ A m c, e = .returned (.slice A m c) ∧ m ≤ n ∧ CO w' w.heap.size (.slice A m c) m ∧ Below w.heap.size w w'

theorem put_cases (k n c : Nat) (is : Bool) (hkn : k ≤ n) (hc : n ≤ c) (his : is = true → k < n) :
    (is = false ∧ (k : Int) ≤ (n : Int) ∧ k ≤ n ∧ c - k = 0 ∧ Hid (n - k = 0)) ∨ (is = false ∧ (k : Int) ≤ (n : Int) ∧ k ≤ n ∧ ¬ c - k = 0) ∨
    (is = true ∧ (k : Int) + 1 ≤ (n : Int) ∧ k + 1 ≤ n ∧ (k : Int) + 1 ≤ (c : Int) ∧ k + 1 ≤ c ∧ c - (k + 1) = 0 ∧ Hid (n - (k + 1) = 0)) ∨ (is = true ∧ (k : Int) + 1 ≤ (n : Int) ∧ k + 1 ≤ n ∧ (k : Int) + 1 ≤ (c : Int) ∧ k + 1 ≤ c ∧ ¬ c - (k + 1) = 0) := by
  cases is
  · by_cases h : c - k = 0
    · exact .inl ⟨rfl, by omega, hkn, h, Lib.hid (by omega)⟩
    · exact .inr (.inl ⟨rfl, by omega, hkn, h⟩)
  · have := his rfl
    by_cases h : c - (k + 1) = 0
    · exact .inr (.inr (.inl ⟨rfl, by omega, by omega, by omega, by omega, h, Lib.hid (by omega)⟩))
    · exact .inr (.inr (.inr ⟨rfl, by omega, by omega, by omega, by omega, h⟩))

set_option maxRecDepth 100000 in
set_option maxHeartbeats 8000000 in
theorem cput_some (g b off n c : Nat) (t a v : Int) (w : World) (h : CL w g (some ⟨b, off, none⟩) n) (hc : n ≤ c) (hn : n ≤ 900000) (hv0 : 0 ≤ v) (hv1 : v ≤ 65535) :
    Calls Try.prog 38 #[.slice (some ⟨b, off, none⟩) n c, .agg #[.int .i64 t, .int .i64 a, .int .u16 v]] w (NewCells (n + 1) w) := by
  have hk : Below w.heap.size w (w.alloc (.cells #[.int .i64 t, .int .i64 a, .int .u16 v] 72)) := (Below.refl _ _).alloc (Nat.le_refl _) _
  have HK := Lib.hid hk
  have HL := Lib.hid (h.below hk)
  obtain ⟨cs, hf, hr, hg⟩ := h
  have HF := Lib.hid hf
  have HR := Lib.hid hr
  clear hf hr hg
  obtain ⟨W0, hW0⟩ : ∃ W0, w.alloc (.cells #[.int .i64 t, .int .i64 a, .int .u16 v] 72) = W0 := ⟨_, rfl⟩
  have h0 : WholeV W0 w.heap.size 72 [.int .i64 t, .int .i64 a, .int .u16 v] := by rw [← hW0]; exact heap_alloc_new w _
  have hlt0 : w.heap.size < W0.heap.size := h0.lt
  rw [hW0] at HL HK
  have x0 : W0.cell? ⟨w.heap.size, 0, none⟩ = some (.int .i64 t) := h0.cell 0
  have x1 : W0.cell? ⟨w.heap.size, 1, none⟩ = some (.int .i64 a) := h0.cell 1
  have H0 := Lib.hid h0
  clear h0 hk
  go_enter Try.func38, Try.ntmps38
  go_wp2_with (first
    | (go_at_call 70
       (with_reducible refine (cfind_any g (some ⟨b, off, none⟩) n c t a W0 HL.out (by omega)).mono ?_)
       rintro e w1 ⟨k, is, rfl, hkn, his, hb1⟩
       have HL1 := Lib.hid (HL.out.below hb1)
       have HK1 := Lib.hid (HK.out.trans (hb1.mono HK.out.size))
       have h1 := H0.out.below hb1 hlt0
       have hlt1 : w.heap.size < w1.heap.size := h1.lt
       have H1 := Lib.hid h1
       have hkc : k ≤ c := by omega
       have hk9 : (k : Int) ≤ 900000 := by omega
       have hk9N : k ≤ 900000 := by omega
       have hkcI : (k : Int) ≤ (c : Int) := by omega
       have HKK : Hid (k ≤ n) := hkn
       clear hb1 h1
       rcases put_cases k n c is hkn hc his with ⟨rfl, q1, q2, q3, z0⟩ | ⟨rfl, q1, q2, z1⟩ | ⟨rfl, q1, q2, q5, q6, q3, z2⟩ | ⟨rfl, q1, q2, q5, q6, z3⟩)
    | (at_builtin; (with_reducible show wpList Try.prog _ _ ((⟨some 18, _, _, _, _, _⟩ : Oper) :: _) _ _); refine wpList_append_ces (o := ⟨some 18, _, _, _, _, _⟩) rfl _ _ rfl w.heap.size (.slice none 0 0) 0 k rfl (CO.nil _ _) (some ⟨b, off, none⟩) k c (Nat.zero_add k) (cs.take k) (HF.out.take k) rfl ((HR.out.below HK1.out).take k HKK.out) (by have := HKK.out; omega) HK1.out.size ?_
       intro A2 c2 w2 hown2 hgr2
       have hb2 : Below w1.heap.size w1 w2 := (Below.refl _ _).grown hgr2 (Nat.le_refl _) (by intro q hq; simp [Value.ownBlock] at hq)
       have h2 := H1.out.below hb2 hlt1
       have hlt2 : w.heap.size < w2.heap.size := h2.lt
       have y0 : w2.cell? ⟨w.heap.size, 0, none⟩ = some (.int .i64 t) := h2.cell 0
       have y1 : w2.cell? ⟨w.heap.size, 1, none⟩ = some (.int .i64 a) := h2.cell 1
       have y2 : w2.cell? ⟨w.heap.size, 2, none⟩ = some (.int .u16 v) := h2.cell 2
       have HO2 := Lib.hid hown2
       have HK2 := Lib.hid (HK1.out.trans (hb2.mono HK1.out.size))
       clear h2 hb2 hown2 hgr2)
    | (with_reducible refine wpList_append_ces (o := ⟨some 22, _, _, _, _, _⟩) rfl _ _ rfl w.heap.size (.slice A2 k c2) k (k + 1) rfl (HO2.out.keep ((Below.refl _ _).alloc (Nat.le_refl _) _)) (some ⟨w2.heap.size, 0, none⟩) 1 1 rfl [(t, a, v)] (Fit16.one hv0 hv1) rfl (cer_one w2 t a v _) (by have := HKK.out; omega) (Nat.le_trans HK2.out.size (by simp)) ?_
       intro A3 c3 w3 hown3 hgr3
       have hk3 : Below w2.heap.size w2 (w2.alloc (.cells #[.int .i64 t, .int .i64 a, .int .u16 v] 72)) := (Below.refl _ _).alloc (Nat.le_refl _) _
       have hb3 : Below w.heap.size w w3 := below_co (HK2.out.trans (hk3.mono HK2.out.size)) (HO2.out.keep hk3) hgr3 (Nat.le_trans HK2.out.size hk3.size)
       have HO3 := Lib.hid hown3
       have HK3 := Lib.hid hb3
       have HR3 := Lib.hid (HR.out.below hb3)
       have HS3 : Hid (w.heap.size ≤ w3.heap.size) := hb3.size
       clear hown3 hgr3 hk3 hb3)
    | (have hz := z0; at_builtin; (with_reducible show wpList Try.prog _ _ ((⟨some 30, _, _, _, _, _⟩ : Oper) :: _) _ _); refine wpList_append_ces (o := ⟨some 30, _, _, _, _, _⟩) rfl _ _ rfl w.heap.size (.slice A3 (k + 1) c3) (k + 1) (n + 1) rfl HO3.out (some ⟨b, off, none⟩) (n - k) _ (by omega) [] (fun _ h => (List.not_mem_nil h).elim) rfl (by rw [z0.out]; exact CeR.none) (by omega) HS3.out ?_
       intro A4 c4 w4 hown4 hgr4
       have HB4 := Lib.hid (below_co HK3.out HO3.out hgr4 HS3.out)
       have HO4 := Lib.hid hown4
       clear hown4 hgr4)
    | (have hz := z1; at_builtin; (with_reducible show wpList Try.prog _ _ ((⟨some 30, _, _, _, _, _⟩ : Oper) :: _) _ _); refine wpList_append_ces (o := ⟨some 30, _, _, _, _, _⟩) rfl _ _ rfl w.heap.size (.slice A3 (k + 1) c3) (k + 1) (n + 1) rfl HO3.out (some ⟨b, off + k * 3, none⟩) (n - k) _ (by omega) (cs.drop k) (HF.out.drop k) rfl (HR3.out.drop k q2) (by omega) HS3.out ?_
       intro A4 c4 w4 hown4 hgr4
       have HB4 := Lib.hid (below_co HK3.out HO3.out hgr4 HS3.out)
       have HO4 := Lib.hid hown4
       clear hown4 hgr4)
    | (have hz := z2; at_builtin; (with_reducible show wpList Try.prog _ _ ((⟨some 30, _, _, _, _, _⟩ : Oper) :: _) _ _); refine wpList_append_ces (o := ⟨some 30, _, _, _, _, _⟩) rfl _ _ rfl w.heap.size (.slice A3 (k + 1) c3) (k + 1) n rfl HO3.out (some ⟨b, off, none⟩) (n - (k + 1)) _ (by omega) [] (fun _ h => (List.not_mem_nil h).elim) rfl (by rw [z2.out]; exact CeR.none) (by omega) HS3.out ?_
       intro A4 c4 w4 hown4 hgr4
       have HB4 := Lib.hid (below_co HK3.out HO3.out hgr4 HS3.out)
       have HO4 := Lib.hid hown4
       clear hown4 hgr4)
    | (have hz := z3; at_builtin; (with_reducible show wpList Try.prog _ _ ((⟨some 30, _, _, _, _, _⟩ : Oper) :: _) _ _); refine wpList_append_ces (o := ⟨some 30, _, _, _, _, _⟩) rfl _ _ rfl w.heap.size (.slice A3 (k + 1) c3) (k + 1) n rfl HO3.out (some ⟨b, off + (k + 1) * 3, none⟩) (n - (k + 1)) _ (by omega) (cs.drop (k + 1)) (HF.out.drop (k + 1)) rfl (HR3.out.drop (k + 1) q2) (by omega) HS3.out ?_
       intro A4 c4 w4 hown4 hgr4
       have HB4 := Lib.hid (below_co HK3.out HO3.out hgr4 HS3.out)
       have HO4 := Lib.hid hown4
       clear hown4 hgr4))
  all_goals
    go_ret
    exact ⟨A4, _, c4, rfl, by omega, HO4.out, HB4.out⟩

set_option maxRecDepth 100000 in
set_option maxHeartbeats 2000000 in
theorem cput_nil (g : Nat) (t a v : Int) (w : World) (hv0 : 0 ≤ v) (hv1 : v ≤ 65535) :
    Calls Try.prog 38 #[.slice none 0 0, .agg #[.int .i64 t, .int .i64 a, .int .u16 v]] w (NewCells 1 w) := by
  have hk : Below w.heap.size w (w.alloc (.cells #[.int .i64 t, .int .i64 a, .int .u16 v] 72)) := (Below.refl _ _).alloc (Nat.le_refl _) _
  have HK := Lib.hid hk
  obtain ⟨W0, hW0⟩ : ∃ W0, w.alloc (.cells #[.int .i64 t, .int .i64 a, .int .u16 v] 72) = W0 := ⟨_, rfl⟩
  have h0 : WholeV W0 w.heap.size 72 [.int .i64 t, .int .i64 a, .int .u16 v] := by rw [← hW0]; exact heap_alloc_new w _
  have hlt0 : w.heap.size < W0.heap.size := h0.lt
  rw [hW0] at HK
  have x0 : W0.cell? ⟨w.heap.size, 0, none⟩ = some (.int .i64 t) := h0.cell 0
  have x1 : W0.cell? ⟨w.heap.size, 1, none⟩ = some (.int .i64 a) := h0.cell 1
  have H0 := Lib.hid h0
  clear h0 hk
  go_enter Try.func38, Try.ntmps38
  go_wp2_with (first
    | (go_at_call 70
       (with_reducible refine (cfind_any g none 0 0 t a W0 (CL.nil _ _) (by omega)).mono ?_)
       rintro e w1 ⟨k, is, rfl, hkn, his, hb1⟩
       obtain rfl : k = 0 := by omega
       obtain rfl : is = false := by
         cases is
         · rfl
         · exact absurd (his rfl) (by omega)
       have hK1 := HK.out.trans (hb1.mono HK.out.size)
       have HK1 := Lib.hid hK1
       have h1 := H0.out.below hb1 hlt0
       have hlt1 : w.heap.size < w1.heap.size := h1.lt
       have y0 : w1.cell? ⟨w.heap.size, 0, none⟩ = some (.int .i64 t) := h1.cell 0
       have y1 : w1.cell? ⟨w.heap.size, 1, none⟩ = some (.int .i64 a) := h1.cell 1
       have y2 : w1.cell? ⟨w.heap.size, 2, none⟩ = some (.int .u16 v) := h1.cell 2
       clear his hkn hb1 h1 hK1)
    | (at_builtin; (with_reducible show wpList Try.prog _ _ ((⟨some 22, _, _, _, _, _⟩ : Oper) :: _) _ _); refine wpList_append_ces (o := ⟨some 22, _, _, _, _, _⟩) rfl _ _ rfl w.heap.size (.slice none 0 0) 0 1 rfl (CO.nil _ _) (some ⟨w1.heap.size, 0, none⟩) 1 1 rfl [(t, a, v)] (Fit16.one hv0 hv1) rfl (cer_one w1 t a v _) (by omega) (Nat.le_trans HK1.out.size (by simp)) ?_
       intro A3 c3 w3 hown3 hgr3
       have hk3 : Below w1.heap.size w1 (w1.alloc (.cells #[.int .i64 t, .int .i64 a, .int .u16 v] 72)) := (Below.refl _ _).alloc (Nat.le_refl _) _
       have hb3 : Below w.heap.size w w3 := below_co (HK1.out.trans (hk3.mono HK1.out.size)) (CO.nil _ _) hgr3 (Nat.le_trans HK1.out.size hk3.size)
       have HO3 := Lib.hid hown3
       have HK3 := Lib.hid hb3
       have HS3 : Hid (w.heap.size ≤ w3.heap.size) := hb3.size
       clear hown3 hgr3 hk3 hb3)
    | (at_builtin; (with_reducible show wpList Try.prog _ _ ((⟨some 30, _, _, _, _, _⟩ : Oper) :: _) _ _); refine wpList_append_ces (o := ⟨some 30, _, _, _, _, _⟩) rfl _ _ rfl w.heap.size (.slice A3 1 c3) 1 1 rfl HO3.out none 0 0 rfl [] (fun _ h => (List.not_mem_nil h).elim) rfl CeR.none (by omega) HS3.out ?_
       intro A4 c4 w4 hown4 hgr4
       have HB4 := Lib.hid (below_co HK3.out HO3.out hgr4 HS3.out)
       have HO4 := Lib.hid hown4
       clear hown4 hgr4))
  all_goals
    go_ret
    exact ⟨A4, _, c4, rfl, by omega, HO4.out, HB4.out⟩

/-- A list of cells that may be cut: none, or in a block above g. -/
def CF (w : World) (g : Nat) (A : Option Addr) (n c : Nat) : Prop := CL w g A n ∧ n ≤ c ∧ ((A = none ∧ n = 0 ∧ c = 0) ∨ ∃ b off, A = some ⟨b, off, none⟩)
theorem CF.nil (w : World) (g : Nat) : CF w g none 0 0 := ⟨CL.nil w g, Nat.le_refl _, .inl ⟨rfl, rfl, rfl⟩⟩
theorem CO.cf {w : World} {base g n c : Nat} {A : Option Addr} (h : CO w base (.slice A n c) n) (hg : g < base) : CF w g A n c := by
  refine ⟨h.cl hg, h.cap, ?_⟩
  obtain ⟨cs, _, h⟩ := h
  rcases h.2 with ⟨h1, h2⟩ | ⟨g', cap, cur, h1, _⟩
  · injection h1 with e1 e2 e3
    exact .inl ⟨e1, e2, e3⟩
  · injection h1 with e1 e2 e3
    exact .inr ⟨g', 0, e1⟩
theorem CF.off {w w' : World} {g n c : Nat} {A : Option Addr} {S : Nat → Prop} (h : CF w g A n c) (ho : Off S w w') (hS : ∀ k, S k → k ≤ g) : CF w' g A n c := ⟨h.1.off ho hS, h.2⟩
theorem CF.below {w w' : World} {g n c : Nat} {A : Option Addr} (h : CF w g A n c) (hb : Below w.heap.size w w') : CF w' g A n c := ⟨h.1.below hb, h.2⟩
theorem cput_any (g : Nat) (A : Option Addr) (n c : Nat) (t a v : Int) (w : World) (h : CF w g A n c) (hn : n ≤ 900000) (hv0 : 0 ≤ v) (hv1 : v ≤ 65535) :
    Calls Try.prog 38 #[.slice A n c, .agg #[.int .i64 t, .int .i64 a, .int .u16 v]] w (NewCells (n + 1) w) := by
  obtain ⟨h1, h2, ⟨rfl, rfl, rfl⟩ | ⟨b, off, rfl⟩⟩ := h
  · exact cput_nil g t a v w hv0 hv1
  · exact cput_some g b off n c t a v w h1 h2 hn hv0 hv1

/-- Some word. -/
def SomeG (w : World) (e : Ending) (w' : World) : Prop := ∃ x b, e = .returned (.tuple #[.int .u16 x, .bool b]) ∧ 0 ≤ x ∧ x ≤ 65535 ∧ Below w.heap.size w w'
def SomeW (w : World) (e : Ending) (w' : World) : Prop := ∃ x, e = .returned (.int .u16 x) ∧ 0 ≤ x ∧ x ≤ 65535 ∧ Below w.heap.size w w'

theorem get_cases {w : World} {g : Nat} {A : Option Addr} {n : Nat} (h : CL w g A n) (k : Nat) (is : Bool) (his : is = true → k < n) :
    is = false ∨ (is = true ∧ k < n ∧ (k : Int) < (n : Int) ∧ ∃ b off v, A = some ⟨b, off, none⟩ ∧ 0 ≤ v ∧ v ≤ 65535 ∧ w.cell? ⟨b, off + k * 3 + 2, none⟩ = some (.int .u16 v)) := by
  cases is
  · exact .inl rfl
  · obtain ⟨b, off, t, a, v, h1, _, _, h2, h3, _, _, h4⟩ := h.at_ k (his rfl)
    have := his rfl
    exact .inr ⟨rfl, this, by omega, b, off, v, h1, h2, h3, h4⟩

set_option maxRecDepth 100000 in
theorem cget_any (g : Nat) (A : Option Addr) (n c : Nat) (t a : Int) (w : World) (h : CL w g A n) (hn : n ≤ 900000) :
    Calls Try.prog 75 #[.slice A n c, .agg #[.int .i64 t, .int .i64 a]] w (SomeG w) := by
  have hk : Below w.heap.size w (w.alloc (.cells #[.int .i64 t, .int .i64 a] 70)) := (Below.refl _ _).alloc (Nat.le_refl _) _
  have HK := Lib.hid hk
  have HL := Lib.hid (h.below hk)
  clear hk h
  go_enter Try.func75, Try.ntmps75
  go_wp2_with (first
    | (go_at_call 70
       (with_reducible refine (cfind_any g A n c t a _ HL.out (by omega)).mono ?_)
       rintro e w1 ⟨k, is, rfl, hkn, his, hb1⟩
       have HK1 := Lib.hid (HK.out.trans (hb1.mono HK.out.size))
       have hL1 := HL.out.below hb1
       have hk0 : (0 : Int) ≤ (k : Int) := by omega
       clear hb1 HL
       rcases get_cases hL1 k is his with rfl | ⟨rfl, q1, q2, b, off, v, rfl, q3, q4, q5⟩
       all_goals clear his hL1))
  · go_ret2
    exact ⟨0, false, rfl, by omega, by omega, HK1.out⟩
  · go_ret2
    exact ⟨v, true, rfl, q3, q4, HK1.out⟩

/-- A file of N cells at most, at block g. -/
def FileAt (w : World) (g N : Nat) : Prop := ∃ A n c, WholeV w g 44 [.slice A n c] ∧ CF w g A n c ∧ n ≤ N
theorem FileAt.off {w w' : World} {g N : Nat} {S : Nat → Prop} (h : FileAt w g N) (ho : Off S w w') (hS : ∀ k, S k → k < g) : FileAt w' g N := by
  obtain ⟨A, n, c, h1, h2, h3⟩ := h
  exact ⟨A, n, c, ho.whole h1 (fun h => by have := hS g h; omega), h2.off ho (fun k hk => Nat.le_of_lt (hS k hk)), h3⟩
theorem FileAt.below {w w' : World} {g N : Nat} (h : FileAt w g N) (hb : Below w.heap.size w w') : FileAt w' g N := h.off (S := fun _ => False) (Off.of_below hb) (fun _ h => h.elim)
theorem FileAt.lt {w : World} {g N : Nat} (h : FileAt w g N) : g < w.heap.size := by
  obtain ⟨A, n, c, h1, h2, h3⟩ := h
  exact h1.lt
theorem FileAt.more {w : World} {g N M : Nat} (h : FileAt w g N) (hM : N ≤ M) : FileAt w g M := by
  obtain ⟨A, n, c, h1, h2, h3⟩ := h
  exact ⟨A, n, c, h1, h2, by omega⟩

set_option maxRecDepth 100000 in
theorem fget_any (g N : Nat) (t a : Int) (w : World) (h : FileAt w g N) (hN : N ≤ 900000) :
    Calls Try.prog 46 #[.pointer (some ⟨g, 0, none⟩), .agg #[.int .i64 t, .int .i64 a]] w (SomeW w) := by
  obtain ⟨A, n, c, h1, h2, h3⟩ := h
  have hlt := h1.lt
  obtain ⟨W0, hW0⟩ : ∃ W0, w.alloc (.cells #[.int .i64 t, .int .i64 a] 70) = W0 := ⟨_, rfl⟩
  have hk : Below w.heap.size w W0 := by rw [← hW0]; exact (Below.refl _ _).alloc (Nat.le_refl _) _
  have h0 : WholeV W0 w.heap.size 70 [.int .i64 t, .int .i64 a] := by rw [← hW0]; exact heap_alloc_new w _
  have x0 : W0.cell? ⟨w.heap.size, 0, none⟩ = some (.int .i64 t) := h0.cell 0
  have x1 : W0.cell? ⟨w.heap.size, 1, none⟩ = some (.int .i64 a) := h0.cell 1
  have xf : W0.cell? ⟨g, 0, none⟩ = some (.slice A n c) := (hk.cell hlt).trans (h1.cell 0)
  have HK := Lib.hid hk
  have HL : Hid (CL W0.drew g A n) := h2.1.below hk.drew
  clear hk h1 h2
  go_enter Try.func46, Try.ntmps46
  go_wp2
  go_region_with (first
    | (go_at_call 75
       (with_reducible refine (cget_any g A n c t a W0.drew HL.out (by omega)).mono ?_)
       rintro e w1 ⟨x, bb, rfl, q1, q2, hb1⟩
       have HK1 := Lib.hid (HK.out.trans ((below_from (d := 1) hb1).mono HK.out.size))
       clear hb1))
  all_goals
    go_wp2
    go_ret
    exact ⟨x, rfl, q1, q2, HK1.out⟩

/-- What Set leaves: a file of no more cells than that, and only its block turned. -/
def SetGot (g N : Nat) (w : World) (e : Ending) (w' : World) : Prop := e = .returned (.tuple #[]) ∧ FileAt w' g N ∧ Off (fun k => k = g) w w'
theorem FileAt.next {w w5 : World} {g n N : Nat} {A A5 : Option Addr} {m5 c5 : Nat} (h : WholeV w g 44 [.slice A n N]) (hb : Below w.heap.size w w5) (ho : CO w5 w.heap.size (.slice A5 m5 c5) m5) {M : Nat} (hM : m5 ≤ M) : FileAt (w5.setCell ⟨g, 0, none⟩ (.slice A5 m5 c5)) g M := by
  have h5 := (h.below hb h.lt).set 0 (.slice A5 m5 c5)
  refine ⟨A5, m5, c5, h5, ?_, hM⟩
  have hcf := ho.cf (g := g) h.lt
  refine ⟨?_, hcf.2⟩
  exact hcf.1.off (Off.setCell (S := fun k => k = g) (Off.refl _ w5) (p := ⟨g, 0, none⟩) (.inl rfl) (.slice A5 m5 c5)) (fun k hk => Nat.le_of_eq hk)

set_option maxRecDepth 100000 in
set_option maxHeartbeats 4000000 in
theorem fset_any (g N : Nat) (B : Option Addr) (m d : Nat) (w : World) (h : FileAt w g N) (hl : CL w g B m) (hN : N + m ≤ 900000) :
    Calls Try.prog 13 #[.pointer (some ⟨g, 0, none⟩), .slice B m d] w (SetGot g (N + m) w) := by
  have HF0 := Lib.hid h
  have HL0 := Lib.hid hl
  clear h hl
  go_enter Try.func13, Try.ntmps13
  go_wp2
  go_loopw [4] (fun i wr => ∃ k : Nat, k ≤ m ∧ i = .int .i64 (k : Int) ∧ Hid (FileAt wr g (N + k)) ∧ Hid (Off (fun k => k = g) w wr) ∧ Hid (CL wr g B m)) (fun i _ => m - (intOf i).toNat)
  case atStart => exact ⟨0, by omega, rfl, HF0, Lib.hid (Off.refl _ _), HL0⟩
  case round =>
    obtain ⟨k, hkm, rfl, HF, HO, HL⟩ := hrel
    by_cases hlt : k < m
    · have hlt' : (k : Int) < (m : Int) := by omega
      have hk0 : (0 : Int) ≤ (k : Int) := by omega
      obtain ⟨b, off, t, a, v, rfl, hgb, hbs, v0, v1, c0, c1, c2⟩ := HL.out.at_ k hlt
      obtain ⟨W, hW⟩ : ∃ W, wr.alloc (.cells #[.int .i64 t, .int .i64 a] 70) = W := ⟨_, rfl⟩
      have hkW : Below wr.heap.size wr W := by rw [← hW]; exact (Below.refl _ _).alloc (Nat.le_refl _) _
      have hX : WholeV W wr.heap.size 70 [.int .i64 t, .int .i64 a] := by rw [← hW]; exact heap_alloc_new wr _
      have x0 : W.cell? ⟨wr.heap.size, 0, none⟩ = some (.int .i64 t) := hX.cell 0
      have x1 : W.cell? ⟨wr.heap.size, 1, none⟩ = some (.int .i64 a) := hX.cell 1
      have HFW := Lib.hid (HF.out.below hkW)
      have HOW := Lib.hid (HO.out.then hkW)
      have HLW := Lib.hid (HL.out.below hkW)
      by_cases p1 : 0 ≤ t ∧ t ≤ 3 ∧ 0 ≤ a ∧ a < 65536
      · obtain ⟨p1, p2, p3, p4⟩ := p1
        obtain ⟨A, n, c, hF1, hF2, hF3⟩ := HFW.out
        have y0 : W.cell? ⟨b, off + k * 3, none⟩ = some (.int .i64 t) := (hkW.cell hbs).trans c0
        have y1 : W.cell? ⟨b, off + k * 3 + 1, none⟩ = some (.int .i64 a) := (hkW.cell hbs).trans c1
        have y2 : W.cell? ⟨b, off + k * 3 + 2, none⟩ = some (.int .u16 v) := (hkW.cell hbs).trans c2
        have yf : W.cell? ⟨g, 0, none⟩ = some (.slice A n c) := hF1.cell 0
        have hgW : g < W.heap.size := hF1.lt
        have HF1 := Lib.hid hF1
        have HF2 : Hid (CF W.drew g A n c) := hF2
        have HF3 := Lib.hid hF3
        clear hF1 hF2 hF3 hX hkW
        go_wp2
        go_region_with (first
          | (go_at_call 38
             (with_reducible refine (cput_any g A n c t a v W.drew HF2.out (by have := HF3.out; omega) v0 v1).mono ?_)
             rintro e w5 ⟨A5, m5, c5, rfl, hm5, ho5, hb5⟩
             have hb5' : Below W.heap.size W w5 := below_from (d := 1) hb5
             have h5 := HF1.out.below hb5' hgW
             have f0 : w5.cell? ⟨g, 0, none⟩ = some (.slice A n c) := h5.cell 0
             have f1 : w5.frozen? ⟨g, 0, none⟩ = false := h5.frozen 0
             have NF : Hid (FileAt (w5.setCell ⟨g, 0, none⟩ (.slice A5 m5 c5)) g (N + (k + 1))) := FileAt.next HF1.out hb5' ho5 (by have := HF3.out; omega)
             have NO : Hid (Off (fun k => k = g) w (w5.setCell ⟨g, 0, none⟩ (.slice A5 m5 c5))) := (HOW.out.then hb5').setCell (.inl rfl) _
             have NL : Hid (CL (w5.setCell ⟨g, 0, none⟩ (.slice A5 m5 c5)) g (some ⟨b, off, none⟩) m) := (HLW.out.below hb5').off (Off.setCell (S := fun k => k = g) (Off.refl _ w5) (p := ⟨g, 0, none⟩) (.inl rfl) (.slice A5 m5 c5)) (fun k hk => Nat.le_of_eq hk)
             clear hb5 hb5' h5 ho5))
        all_goals
          go_wp2
          go_roundw
          case rel => exact ⟨k + 1, by omega, rfl, NF, NO, NL⟩
          case measure => simp [intOf]; omega
      · have HFN := Lib.hid (HFW.out.more (show N + k ≤ N + (k + 1) by omega))
        by_cases p1' : 0 ≤ t
        · by_cases p2 : t ≤ 3
          · by_cases p3 : 0 ≤ a
            · have p4 : ¬ a < 65536 := by omega
              clear p1
              go_wp2
              go_roundw
              case rel => exact ⟨k + 1, by omega, rfl, HFN, HOW, HLW⟩
              case measure => simp [intOf]; omega
            · clear p1
              go_wp2
              go_roundw
              case rel => exact ⟨k + 1, by omega, rfl, HFN, HOW, HLW⟩
              case measure => simp [intOf]; omega
          · clear p1
            go_wp2
            go_roundw
            case rel => exact ⟨k + 1, by omega, rfl, HFN, HOW, HLW⟩
            case measure => simp [intOf]; omega
        · clear p1
          go_wp2
          go_roundw
          case rel => exact ⟨k + 1, by omega, rfl, HFN, HOW, HLW⟩
          case measure => simp [intOf]; omega
    · have hge : ¬ (k : Int) < (m : Int) := by omega
      go_wp2
      go_end0
      have e : k = m := by omega
      subst e
      exact ⟨rfl, HF.out, HO.out⟩

def KeyGot (w : World) (e : Ending) (w' : World) : Prop := ∃ t a, e = .returned (.agg #[.int .i64 t, .int .i64 a]) ∧ Below w.heap.size w w'
def CellGot (w : World) (e : Ending) (w' : World) : Prop := ∃ t a v, e = .returned (.agg #[.int .i64 t, .int .i64 a, .int .u16 v]) ∧ 0 ≤ v ∧ v ≤ 65535 ∧ Below w.heap.size w w'

theorem two_boxes (w : World) (t a : Int) (T : TypeId) : ∃ W, (w.alloc (.cells #[.int .i64 t, .int .i64 a] T)).alloc (.cells #[.int .i64 t, .int .i64 a] T) = W ∧ Below w.heap.size w W ∧ W.cell? ⟨w.heap.size, 0, none⟩ = some (.int .i64 t) ∧ W.cell? ⟨w.heap.size, 1, none⟩ = some (.int .i64 a) := by
  have h : WholeV (w.alloc (.cells #[.int .i64 t, .int .i64 a] T)) w.heap.size T [.int .i64 t, .int .i64 a] := heap_alloc_new w _
  have h2 := h.below ((Below.refl _ _).alloc (Nat.le_refl _) (.cells #[.int .i64 t, .int .i64 a] T)) h.lt
  exact ⟨_, rfl, ((Below.refl _ _).alloc (Nat.le_refl _) _).alloc (by simp) _, h2.cell 0, h2.cell 1⟩

set_option maxRecDepth 100000 in
set_option maxHeartbeats 1000000 in
theorem lkey_any (k : Int) (w : World) (k0 : -9223372036854775808 ≤ k) (k1 : k ≤ 9223372036854775807) : Calls Try.prog 71 #[.int .i64 k] w (KeyGot w) := by
  obtain ⟨t, ht⟩ : ∃ t, k % 4 = t := ⟨_, rfl⟩
  obtain ⟨a, ha⟩ : ∃ a, (k.tdiv 4) % 16 = a := ⟨_, rfl⟩
  obtain ⟨d, hd⟩ : ∃ d, (k.tdiv 64) % 16 = d := ⟨_, rfl⟩
  have ha0 : 0 ≤ a ∧ a < 16 := by omega
  have C1 := Lib.hid (fun W => within_lit k 4 t W ht k0 k1 (by omega) (by omega))
  have C2 := Lib.hid (fun W => digit_lit k 4 16 a W ha k0 k1 (by omega) (by omega) (by omega) (by omega))
  have C3 := Lib.hid (fun W => digit_lit k 64 16 d W hd k0 k1 (by omega) (by omega) (by omega) (by omega))
  obtain ⟨ha1, ha2⟩ := ha0
  clear ht ha hd
  by_cases hd0 : d = 0
  · subst hd0
    go_enter Try.func71, Try.ntmps71
    go_wp2_with (first
      | (go_at_call 11; (with_reducible refine (C1.out _).mono ?_); rintro e w' ⟨rfl, rfl⟩)
      | (go_at_call 19; (with_reducible refine (C2.out _).mono ?_); rintro e w' ⟨rfl, rfl⟩)
      | (go_at_call 19; (with_reducible refine (C3.out _).mono ?_); rintro e w' ⟨rfl, rfl⟩))
    obtain ⟨W, hW, hb, he0, he1⟩ := two_boxes w t (65535 - a) 70
    rw [hW]
    exact bodyPost_ret (v := .agg #[.int .i64 t, .int .i64 (65535 - a)]) (by simp [results, Try.results71, go_sem, he0, he1]) rfl ⟨t, (65535 - a), rfl, hb⟩
  · go_enter Try.func71, Try.ntmps71
    go_wp2_with (first
      | (go_at_call 11; (with_reducible refine (C1.out _).mono ?_); rintro e w' ⟨rfl, rfl⟩)
      | (go_at_call 19; (with_reducible refine (C2.out _).mono ?_); rintro e w' ⟨rfl, rfl⟩)
      | (go_at_call 19; (with_reducible refine (C3.out _).mono ?_); rintro e w' ⟨rfl, rfl⟩))
    obtain ⟨W, hW, hb, he0, he1⟩ := two_boxes w t a 70
    rw [hW]
    exact bodyPost_ret (v := .agg #[.int .i64 t, .int .i64 a]) (by simp [results, Try.results71, go_sem, he0, he1]) rfl ⟨t, a, rfl, hb⟩

theorem cell_end (w w1 : World) (t a v : Int) (T : TypeId) (hx : WholeV w1 w.heap.size T [.int .i64 0, .int .i64 0, .int .u16 0]) (hb : Below w.heap.size w w1) :
    ∃ W, (((w1.setCell ⟨w.heap.size, 0, none⟩ (.int .i64 t)).setCell ⟨w.heap.size, 1, none⟩ (.int .i64 a)).setCell ⟨w.heap.size, 2, none⟩ (.int .u16 v)).alloc (.cells #[.int .i64 t, .int .i64 a, .int .u16 v] T) = W ∧ Below w.heap.size w W ∧ W.cell? ⟨w.heap.size, 0, none⟩ = some (.int .i64 t) ∧ W.cell? ⟨w.heap.size, 1, none⟩ = some (.int .i64 a) ∧ W.cell? ⟨w.heap.size, 2, none⟩ = some (.int .u16 v) := by
  have h := ((hx.set 0 (.int .i64 t)).set 1 (.int .i64 a)).set 2 (.int .u16 v)
  have hb2 := ((hb.setCell (p := ⟨w.heap.size, 0, none⟩) (Nat.le_refl _) (.int .i64 t)).setCell (p := ⟨w.heap.size, 1, none⟩) (Nat.le_refl _) (.int .i64 a)).setCell (p := ⟨w.heap.size, 2, none⟩) (Nat.le_refl _) (.int .u16 v)
  have h2 := h.below ((Below.refl _ _).alloc (Nat.le_refl _) (.cells #[.int .i64 t, .int .i64 a, .int .u16 v] T)) h.lt
  exact ⟨_, rfl, hb2.alloc hb2.size _, h2.cell 0, h2.cell 1, h2.cell 2⟩

set_option maxRecDepth 100000 in
set_option maxHeartbeats 1000000 in
theorem lcell_any (k : Int) (w : World) (k0 : -9223372036854775808 ≤ k) (k1 : k ≤ 9223372036854775807) : Calls Try.prog 39 #[.int .i64 k] w (CellGot w) := by
  obtain ⟨d, hd⟩ : ∃ d, (k.tdiv 1024) % 65536 = d := ⟨_, rfl⟩
  have hd0 : 0 ≤ d := by omega
  have hd1 : d ≤ 65535 := by omega
  have C1 := Lib.hid (fun W => digit_lit k 1024 65536 d W hd k0 k1 (by omega) (by omega) (by omega) (by omega))
  have hw : IntKind.u16.wrap d = d := IntWalk.u16_in _ (by omega)
  clear hd
  go_enter Try.func39, Try.ntmps39
  go_wp2_with fail
  refine (lkey_any k _ k0 k1).mono ?_
  rintro e w1 ⟨t, a, rfl, hb1⟩
  have hw1 : Below w.heap.size w w1 := ((Below.refl _ _).alloc (Nat.le_refl _) _).trans (hb1.mono (by simp))
  have hx1 : WholeV w1 w.heap.size 72 [.int .i64 0, .int .i64 0, .int .u16 0] := by
    have h : WholeV (w.alloc (.cells #[.int .i64 0, .int .i64 0, .int .u16 0] 72)) w.heap.size 72 [.int .i64 0, .int .i64 0, .int .u16 0] := heap_alloc_new w _
    exact h.below hb1 h.lt
  have hlt1 : w.heap.size < w1.heap.size := hx1.lt
  have x0 := hx1.cell 0
  have x1 := hx1.cell 1
  have x2 := hx1.cell 2
  have f0 := hx1.frozen 0
  have f1 := hx1.frozen 1
  have f2 := hx1.frozen 2
  have HX1 := Lib.hid hx1
  have HW1 := Lib.hid hw1
  clear hb1 hx1 hw1
  by_cases ht : t < 2
  · go_wp2_with (go_at_call 19; (with_reducible refine (C1.out _).mono ?_); rintro e w' ⟨rfl, rfl⟩)
    obtain ⟨W, hW, hb, he0, he1, he2⟩ := cell_end w w1 t a (d % 2) 72 HX1.out HW1.out
    rw [hW]
    exact bodyPost_ret (v := .agg #[.int .i64 t, .int .i64 a, .int .u16 (d % 2)]) (by simp [results, Try.results39, go_sem, he0, he1, he2]) rfl ⟨t, a, (d % 2), rfl, by omega, by omega, hb⟩
  · go_wp2_with (go_at_call 19; (with_reducible refine (C1.out _).mono ?_); rintro e w' ⟨rfl, rfl⟩)
    obtain ⟨W, hW, hb, he0, he1, he2⟩ := cell_end w w1 t a d 72 HX1.out HW1.out
    rw [hW]
    exact bodyPost_ret (v := .agg #[.int .i64 t, .int .i64 a, .int .u16 d]) (by simp [results, Try.results39, go_sem, he0, he1, he2]) rfl ⟨t, a, d, rfl, by omega, by omega, hb⟩

def In64 (zs : List Int) : Prop := ∀ x ∈ zs, -9223372036854775808 ≤ x ∧ x ≤ 9223372036854775807
theorem in64_at {zs : List Int} (h : In64 zs) (k : Nat) (hk : k < zs.length) : -9223372036854775808 ≤ zs.getD k 0 ∧ zs.getD k 0 ≤ 9223372036854775807 := by
  have e : zs.getD k 0 = zs[k] := by simp [hk]
  rw [e]
  exact h _ (List.getElem_mem hk)

set_option maxRecDepth 100000 in
set_option maxHeartbeats 2000000 in
theorem lcells_any (A : Option Addr) (n c : Nat) (zs : List Int) (w : World) (hr : Row .i64 w w.heap.size A n zs) (hz : In64 zs) (h0 : 0 < w.heap.size) : Calls Try.prog 14 #[.slice A n c] w (NewCells 20 w) := by
  have HR := Lib.hid hr
  have HZ := Lib.hid hz
  clear hr hz
  go_enter Try.func14, Try.ntmps14
  go_wp2
  go_loopw [3, 4] (fun l i wr => ∃ (j m : Nat) (A5 : Option Addr) (c5 : Nat), j ≤ 20 ∧ m ≤ j ∧ l = .slice A5 m c5 ∧ i = .int .i64 (j : Int) ∧ Hid (CO wr w.heap.size (.slice A5 m c5) m) ∧ Hid (Below w.heap.size w wr)) (fun _ i _ => 20 - (intOf i).toNat)
  case atStart => exact ⟨0, 0, none, 0, by omega, by omega, rfl, rfl, Lib.hid (CO.nil _ _), Lib.hid (Below.refl _ _)⟩
  case round =>
    obtain ⟨j, m, A5, c5, hj, hm, rfl, rfl, HO, HB⟩ := hrel
    by_cases h1 : j < n
    · have h1' : (j : Int) < (n : Int) := by omega
      by_cases h2 : j < 20
      · have h2' : (j : Int) < 20 := by omega
        have hj0 : (0 : Int) ≤ (j : Int) := by omega
        obtain ⟨b, off, hA, hb, hc⟩ := (HR.out.below HB.out).2 (by omega)
        subst hA
        have hck := hc j h1
        obtain ⟨x, hx⟩ : ∃ x, zs.getD j 0 = x := ⟨_, rfl⟩
        rw [hx] at hck
        have hx2 : -9223372036854775808 ≤ x ∧ x ≤ 9223372036854775807 := by rw [← hx]; exact in64_at HZ.out j (by rw [HR.out.1]; exact h1)
        obtain ⟨hx3, hx4⟩ := hx2
        clear hc hb hx
        go_wp2_with fail
        refine (lcell_any x wr hx3 hx4).mono ?_
        rintro e w1 ⟨t, a, v, rfl, v0, v1, hb1⟩
        have HO1 := Lib.hid (HO.out.keep hb1)
        have HB1 := Lib.hid (HB.out.trans (hb1.mono HB.out.size))
        clear hb1
        · go_wp2_with fail
          refine (cput_any (w.heap.size - 1) A5 m c5 t a v w1 (HO1.out.cf (by omega)) (by omega) v0 v1).mono ?_
          rintro e w2 ⟨A6, m6, c6, rfl, hm6, ho6, hb6⟩
          have HO6 := Lib.hid (ho6.mono HB1.out.size)
          have HB6 := Lib.hid (HB1.out.trans (hb6.mono HB1.out.size))
          clear ho6 hb6
          go_wp2
          go_roundw
          case rel => exact ⟨j + 1, m6, A6, c6, by omega, by omega, rfl, rfl, HO6, HB6⟩
          case measure => simp [intOf]; omega
      · have h2' : ¬ (j : Int) < 20 := by omega
        go_wp2
        go_ret
        exact ⟨A5, m, c5, rfl, by omega, HO.out, HB.out⟩
    · have h1' : ¬ (j : Int) < (n : Int) := by omega
      go_wp2
      go_ret
      exact ⟨A5, m, c5, rfl, by omega, HO.out, HB.out⟩

end Go.Proofs.Ytielfekkonflfaa

/- Joined: RMath Off Ring1 Ring2 Ring3 Ring4 Awake9 RLaw. -/
import Derived.Test.YthmendcdfhlkkaaGen
import Derived.Laws.CopyOwn
import Derived.Test.YthmendcdfhlkkaaStep
import Derived.Deep.RegionLaw
import Derived.Test.YthmendcdfhlkkaaWithin
namespace Go.Proofs.Ythmendcdfhlkkaa
open Go.RowKit
set_option linter.unusedVariables false
set_option linter.unusedSimpArgs false
open Go.ChangeShapes Go.WideShapes Go.ChangeAt Go.RowKit

/-- The place i behind f, of M places. -/
def plc (M f i : Nat) : Nat := if M = 0 then 0 else (f + i) % M
theorem plc_zero (f i : Nat) : plc 0 f i = 0 := rfl
theorem plc_lo {M f i : Nat} (h : f + i < M) : plc M f i = f + i := by
  unfold plc; rw [if_neg (by omega)]; exact Nat.mod_eq_of_lt h
theorem plc_hi {M f i : Nat} (h : M ≤ f + i) (h2 : f + i < 2 * M) : plc M f i = f + i - M := by
  unfold plc; rw [if_neg (by omega), Nat.mod_eq_sub_mod h]; exact Nat.mod_eq_of_lt (by omega)
theorem plc_lt {M f i : Nat} (h : 0 < M) : plc M f i < M := by
  unfold plc; rw [if_neg (by omega)]; exact Nat.mod_lt _ h
theorem plc_le {M f i : Nat} : plc M f i ≤ M := by
  rcases Nat.eq_zero_or_pos M with h | h
  · subst h; exact Nat.le_refl _
  · exact Nat.le_of_lt (plc_lt h)

/-- The places pl, as many as M, hold qs from place f on. -/
def Holds (pl : List Int) (M f : Nat) (qs : List Int) : Prop :=
  pl.length = M ∧ qs.length ≤ M ∧ f ≤ M ∧ (0 < M → f < M) ∧ ∀ j, j < qs.length → pl.getD (plc M f j) 0 = qs.getD j 0

theorem holds_new (M : Nat) : Holds (List.replicate M 0) M 0 [] := ⟨by simp, by simp, by omega, fun h => h, fun j hj => by simp at hj⟩

theorem getD_splice (L X : List Int) (o i : Nat) (h : o + X.length ≤ L.length) : (splice L o X).getD i 0 = if o ≤ i ∧ i < o + X.length then X.getD (i - o) 0 else L.getD i 0 := by
  unfold splice
  simp only [List.getD_eq_getElem?_getD]
  congr 1
  by_cases h1 : i < o
  · rw [if_neg (by omega), List.getElem?_append_left (by rw [List.length_take]; omega), List.getElem?_take, if_pos h1]
  · have hl : (L.take o).length = o := by rw [List.length_take]; omega
    rw [List.getElem?_append_right (by omega), hl]
    by_cases h2 : i < o + X.length
    · rw [if_pos ⟨by omega, h2⟩, List.getElem?_append_left (by omega)]
    · rw [if_neg (by omega), List.getElem?_append_right (by omega), List.getElem?_drop, show o + X.length + (i - o - X.length) = i by omega]

/-- What is looked at. -/
theorem holds_look {pl : List Int} {M f : Nat} {qs : List Int} (h : Holds pl M f qs) (n k : Nat) (hn : n ≤ qs.length) (hk : k = min n (M - f)) : (pl.drop f).take k ++ pl.take (n - k) = qs.take n := by
  obtain ⟨h1, h2, h3, h4, h5⟩ := h
  apply List.ext_getElem?
  intro i
  by_cases hi : i < n
  · have hM : f < M := h4 (by omega)
    have hv := h5 i (by omega)
    simp only [List.getD_eq_getElem?_getD] at hv
    rw [List.getElem?_take, if_pos hi]
    have hq : qs[i]? = some ((qs[i]?).getD 0) := by rw [List.getElem?_eq_getElem (by omega)]; rfl
    rw [hq, ← hv]
    by_cases hlo : i < k
    · rw [List.getElem?_append_left (by rw [List.length_take, List.length_drop]; omega), List.getElem?_take, if_pos hlo, List.getElem?_drop, plc_lo (by omega), List.getElem?_eq_getElem (by omega)]
      rfl
    · have hl : ((pl.drop f).take k).length = k := by rw [List.length_take, List.length_drop]; omega
      rw [List.getElem?_append_right (by omega), hl, List.getElem?_take, if_pos (by omega), plc_hi (by omega) (by omega), show f + i - M = i - k by omega, List.getElem?_eq_getElem (by omega)]
      rfl
  · rw [List.getElem?_eq_none (by simp only [List.length_append, List.length_take, List.length_drop]; omega), List.getElem?_eq_none (by rw [List.length_take]; omega)]

/-- What is taken is gone. -/
theorem holds_take {pl : List Int} {M f : Nat} {qs : List Int} (h : Holds pl M f qs) (n : Nat) (hn : n ≤ qs.length) : Holds pl M (plc M f n) (qs.drop n) := by
  obtain ⟨h1, h2, h3, h4, h5⟩ := h
  refine ⟨h1, by rw [List.length_drop]; omega, plc_le, fun h0 => plc_lt h0, fun j hj => ?_⟩
  rw [List.length_drop] at hj
  have hM : f < M := h4 (by omega)
  have hv := h5 (n + j) (by omega)
  have e : plc M (plc M f n) j = plc M f (n + j) := by
    unfold plc
    rw [if_neg (by omega), if_neg (by omega), if_neg (by omega), Nat.mod_add_mod, Nat.add_assoc]
  rw [e, hv]
  simp [List.getD_eq_getElem?_getD, List.getElem?_drop]

/-- What is put stands behind. -/
theorem holds_put {pl : List Int} {M f : Nat} {qs : List Int} (h : Holds pl M f qs) (zs : List Int) (n e k : Nat) (hz : zs.length = n) (hn : qs.length + n ≤ M) (he : e = plc M f qs.length) (hk : k = min n (M - e)) :
    Holds (splice (splice pl e (zs.take k)) 0 (zs.drop k)) M f (qs ++ zs) := by
  obtain ⟨h1, h2, h3, h4, h5⟩ := h
  have hl1 : (zs.take k).length = k := by rw [List.length_take]; omega
  have hl2 : (zs.drop k).length = n - k := by rw [List.length_drop]; omega
  have heM : e ≤ M := by rw [he]; exact plc_le
  have hs1 : (splice pl e (zs.take k)).length = M := by rw [length_splice _ _ _ (by rw [hl1]; omega), h1]
  refine ⟨by rw [length_splice _ _ _ (by rw [hl2, hs1]; omega), hs1], by rw [List.length_append]; omega, h3, h4, fun j hj => ?_⟩
  rw [List.length_append] at hj
  have hM : f < M := h4 (by omega)
  have hz1 : ∀ i, i < k → (zs.take k).getD i 0 = zs.getD i 0 := fun i hi => by simp [List.getD_eq_getElem?_getD, List.getElem?_take, hi]
  have hz2 : ∀ i, (zs.drop k).getD i 0 = zs.getD (k + i) 0 := fun i => by simp [List.getD_eq_getElem?_getD, List.getElem?_drop]
  rw [getD_splice _ _ _ _ (by rw [hl2, hs1]; omega), hl2, getD_splice _ _ _ _ (by rw [hl1]; omega), hl1]
  have hev : (f + qs.length < M ∧ e = f + qs.length) ∨ (M ≤ f + qs.length ∧ e = f + qs.length - M) := by
    by_cases hc : f + qs.length < M
    · exact .inl ⟨hc, by rw [he, plc_lo hc]⟩
    · exact .inr ⟨by omega, by rw [he, plc_hi (by omega) (by omega)]⟩
  by_cases hj1 : j < qs.length
  · have hv := h5 j hj1
    have hp : (f + j < M ∧ plc M f j = f + j) ∨ (M ≤ f + j ∧ plc M f j = f + j - M) := by
      by_cases hc : f + j < M
      · exact .inl ⟨hc, plc_lo hc⟩
      · exact .inr ⟨by omega, plc_hi (by omega) (by omega)⟩
    rw [if_neg (by omega), if_neg (by omega), hv]
    simp [List.getD_eq_getElem?_getD, List.getElem?_append_left hj1]
  · have hq : (qs ++ zs).getD j 0 = zs.getD (j - qs.length) 0 := by
      simp [List.getD_eq_getElem?_getD, List.getElem?_append_right (show qs.length ≤ j by omega)]
    have hp : (f + j < M ∧ plc M f j = f + j) ∨ (M ≤ f + j ∧ plc M f j = f + j - M) := by
      by_cases hc : f + j < M
      · exact .inl ⟨hc, plc_lo hc⟩
      · exact .inr ⟨by omega, plc_hi (by omega) (by omega)⟩
    rw [hq]
    by_cases hlo : j - qs.length < k
    · rw [if_neg (by omega), if_pos (by omega), hz1 _ (by omega)]
      congr 1
      omega
    · rw [if_pos (by omega), hz2]
      congr 1
      omega

/-- Only blocks of S, and what was made since, may have turned. -/
structure Off (S : Nat → Prop) (w w' : World) : Prop where
  os : w'.os = w.os
  tape : w'.tape = w.tape
  output : w'.output = w.output
  size : w.heap.size ≤ w'.heap.size
  block : ∀ k, k < w.heap.size → ¬ S k → w'.heap[k]? = w.heap[k]?

theorem Off.refl (S : Nat → Prop) (w : World) : Off S w w := ⟨rfl, rfl, rfl, Nat.le_refl _, fun _ _ _ => rfl⟩
theorem Off.trans {S T : Nat → Prop} {a b c : World} (h : Off S a b) (k : Off T b c) (hT : ∀ i, T i → S i ∨ a.heap.size ≤ i) : Off S a c :=
  ⟨k.os.trans h.os, k.tape.trans h.tape, k.output.trans h.output, Nat.le_trans h.size k.size, fun i hi hs => (k.block i (Nat.lt_of_lt_of_le hi h.size) (fun ht => by
    rcases hT i ht with h1 | h1
    · exact hs h1
    · omega)).trans (h.block i hi hs)⟩
theorem Off.mono {S T : Nat → Prop} {w w' : World} (h : Off S w w') (hT : ∀ i, S i → T i) : Off T w w' := ⟨h.os, h.tape, h.output, h.size, fun k hk ht => h.block k hk (fun hs => ht (hT k hs))⟩
theorem Off.of_below {S : Nat → Prop} {w w' : World} (h : Below w.heap.size w w') : Off S w w' := ⟨h.os, h.tape, h.output, h.size, fun k hk _ => h.block k hk⟩
theorem Off.below {S : Nat → Prop} {w w' : World} {B : Nat} (h : Off S w w') (hB : B ≤ w.heap.size) (hS : ∀ k, k < B → ¬ S k) : Below B w w' := ⟨h.os, h.tape, h.output, h.size, fun k hk => h.block k (by omega) (hS k hk)⟩
theorem Off.then {S : Nat → Prop} {a b c : World} (h : Off S a b) (k : Below b.heap.size b c) : Off S a c := h.trans (T := fun _ => False) (Off.of_below k) (fun _ hi => hi.elim)
theorem Off.alloc {S : Nat → Prop} {a w : World} (h : Off S a w) (o : Obj) : Off S a (w.alloc o) := h.then ((Below.refl _ _).alloc (Nat.le_refl _) o)
theorem Off.drewN {S : Nat → Prop} {a w : World} (h : Off S a w) (d : Nat) : Off S a (w.drewN d) := ⟨h.os, h.tape, h.output, h.size, h.block⟩
theorem Off.drew {S : Nat → Prop} {a w : World} (h : Off S a w) : Off S a w.drew := ⟨h.os, h.tape, h.output, h.size, h.block⟩
theorem Off.setCell {S : Nat → Prop} {a w : World} (h : Off S a w) {p : Addr} (hp : S p.block ∨ a.heap.size ≤ p.block) (u : Value) : Off S a (w.setCell p u) :=
  h.trans (T := fun k => k = p.block) ⟨rfl, rfl, rfl, by simp [World.setCell], fun k hk hs => Below.heap_setCell w p u k hs⟩ (fun i hi => by subst hi; exact hp)
theorem Off.cell {S : Nat → Prop} {w w' : World} (h : Off S w w') {p : Addr} (hp : p.block < w.heap.size) (hs : ¬ S p.block) : w'.cell? p = w.cell? p := World.cell?_of_block (w := w) (h.block p.block hp hs)
theorem Off.frozen {S : Nat → Prop} {w w' : World} (h : Off S w w') {p : Addr} (hp : p.block < w.heap.size) (hs : ¬ S p.block) : w'.frozen? p = w.frozen? p := World.frozen?_of_block (w := w) (h.block p.block hp hs)
theorem Off.whole {S : Nat → Prop} {w w' : World} {g : Nat} {t : TypeId} {vs : List Value} (h : Off S w w') (hg : WholeV w g t vs) (hs : ¬ S g) : WholeV w' g t vs := (h.block g hg.lt hs).trans hg
theorem Off.wholeI {S : Nat → Prop} {w w' : World} {g : Nat} {k : IntKind} {t : TypeId} {zs : List Int} (h : Off S w w') (hg : Whole k w g t zs) (hs : ¬ S g) : Whole k w' g t zs := (h.block g hg.lt hs).trans hg
theorem Off.own {S : Nat → Prop} {w w' : World} {b : Nat} {e : TypeId} {v : Value} {n : Nat} {xs : List Value} (h : Off S w w') (ho : w.ownsRow b e 1 v n xs) (hs : ∀ k, b ≤ k → k < w.heap.size → ¬ S k) : w'.ownsRow b e 1 v n xs := by
  refine ⟨ho.1, ?_⟩
  rcases ho.2 with h0 | ⟨g, cap, cur, hv, hg, hh, rest⟩
  · exact .inl h0
  · have hlt : g < w.heap.size := by
      rcases Nat.lt_or_ge g w.heap.size with hlt | hge
      · exact hlt
      · rw [Array.getElem?_eq_none hge] at hh; cases hh
    exact .inr ⟨g, cap, cur, hv, hg, (h.block g hlt (hs g hg hlt)).trans hh, rest⟩
theorem Off.grown {S : Nat → Prop} {a w w' : World} {row : Option Nat} (h : Off S a w) (hg : w.grownBy w' row) (hr : ∀ k, row = some k → S k ∨ a.heap.size ≤ k) : Off S a w' :=
  h.trans (T := fun k => row = some k) ⟨hg.os, hg.tape, hg.output, hg.size, fun k hk hs => hg.block k hk (fun e => hs e.symm)⟩ (fun i hi => hr i hi)

/-- A slice that reads as the bytes zs, in a block that S has not. -/
def RowOff (w : World) (S : Nat → Prop) (A : Option Addr) (n : Nat) (zs : List Int) : Prop :=
  zs.length = n ∧ (0 < n → ∃ b off, A = some ⟨b, off, none⟩ ∧ b < w.heap.size ∧ ¬ S b ∧ ∀ j, j < n → w.cell? ⟨b, off + j, none⟩ = some (.int .u8 (zs.getD j 0)))
theorem RowOff.off {S T : Nat → Prop} {w w' : World} {A : Option Addr} {n : Nat} {zs : List Int} (h : RowOff w S A n zs) (ho : Off T w w') (hT : ∀ k, T k → S k) : RowOff w' S A n zs :=
  ⟨h.1, fun h0 => by
    obtain ⟨b, off, e, hb, hs, hc⟩ := h.2 h0
    exact ⟨b, off, e, Nat.lt_of_lt_of_le hb ho.size, hs, fun j hj => (ho.cell (p := ⟨b, off + j, none⟩) hb (fun ht => hs (hT b ht))).trans (hc j hj)⟩⟩
theorem RowOff.row {S : Nat → Prop} {w : World} {A : Option Addr} {n : Nat} {zs : List Int} (h : RowOff w S A n zs) : Row .u8 w w.heap.size A n zs :=
  ⟨h.1, fun h0 => by
    obtain ⟨b, off, e, hb, hs, hc⟩ := h.2 h0
    exact ⟨b, off, e, hb, hc⟩⟩
theorem RowOff.of_row {S : Nat → Prop} {w : World} {B : Nat} {A : Option Addr} {n : Nat} {zs : List Int} (h : Row .u8 w B A n zs) (hB : B ≤ w.heap.size) (hS : ∀ k, k < B → ¬ S k) : RowOff w S A n zs :=
  ⟨h.1, fun h0 => by
    obtain ⟨b, off, e, hb, hc⟩ := h.2 h0
    exact ⟨b, off, e, by omega, hS b hb, hc⟩⟩
theorem RowOff.of_whole {S : Nat → Prop} {w : World} {g n : Nat} {t : TypeId} {zs ys : List Int} (h : Whole .u8 w g t (zs ++ ys)) (hn : zs.length = n) (hS : ¬ S g) : RowOff w S (some ⟨g, 0, none⟩) n zs :=
  ⟨hn, fun h0 => ⟨g, 0, rfl, h.lt, hS, fun j hj => by
    rw [Nat.zero_add, h.cell j (by rw [List.length_append]; omega)]
    simp [List.getD_eq_getElem?_getD, List.getElem?_append_left (show j < zs.length by omega)]⟩⟩

/-- A slice of some bytes of a row: from k on, m of them. -/
theorem RowOff.part {S : Nat → Prop} {w : World} {A : Option Addr} {n : Nat} {zs : List Int} (h : RowOff w S A n zs) (k m : Nat) (hm : 0 < m) (hk : k + m ≤ n) :
    ∃ ad : Addr, A = some ad ∧ ∀ j v, (((zs.drop k).take m).map (Value.int .u8))[j]? = some v → w.cell? ((ad.add k).add j) = some v := by
  obtain ⟨b, off, e, hb, hs, hc⟩ := h.2 (by omega)
  refine ⟨⟨b, off, none⟩, e, fun j v hv => ?_⟩
  have hl := h.1
  rw [add_none, add_none]
  rw [List.getElem?_map, List.getElem?_take] at hv
  by_cases hj : j < m
  · rw [if_pos hj, List.getElem?_drop, List.getElem?_eq_getElem (by omega)] at hv
    have := hc (k + j) (by omega)
    rw [Nat.add_assoc, this]
    rw [← hv, List.getD_eq_getElem?_getD, List.getElem?_eq_getElem (by omega)]
    rfl
  · rw [if_neg hj] at hv
    cases hv

/-- copy into a block whose place is given: only that block turns. -/
theorem wpList_copy_at {P : Program} {w : World} {ops : Array Oper} {rest : List Oper} {o : Oper} {a : Act} {Q : Exit → Act → World → Prop} (hgd : o.guard = none) (d s : Operand) (dT sT : TypeId)
    (ho : o.op = .call { callee := .builtin .copy, args := #[d, s], argTypes := #[dT, sT] }) (elem : TypeId) (hu : P.underlying dT = some (.slice elem)) (hsz : (P.info? elem).map (·.size) = some 1)
    (dp sp : Option Addr) (dLen dCap sLen sCap : Nat) (hd : a.eval d = .slice dp dLen dCap) (hs : a.eval s = .slice sp sLen sCap)
    (g off : Nat) (cur : List Value) (t : TypeId) (hg : w.heap[g]? = some (.cells cur.toArray t (0, 0))) (cs : List Value) (n : Nat) (hl : cs.length = n) (hn : n = Nat.min sLen dLen)
    (hpos : 0 < n → dp = some ⟨g, off, none⟩ ∧ ∃ ad, sp = some ad ∧ ∀ j v, cs[j]? = some v → w.cell? (ad.add j) = some v)
    (hfit : off + n ≤ cur.length) (h1 : ∀ v ∈ cs, v.oneCell' = true)
    (h : ∀ w', Hid (w'.heap[g]? = some (.cells (splice cur off cs).toArray t (0, 0))) → Off (fun k => k = g) w w' → wpList P ops Q rest (a.put o.dst (goInt n)) w') :
    wpList P ops Q (o :: rest) a w := by
  subst hl
  by_cases h0 : cs.length = 0
  · obtain rfl : cs = [] := List.eq_nil_of_length_eq_zero h0
    refine wpList_copy_nothing hgd d s dT sT ho elem hu hsz dp sp dLen dCap sLen sCap hd hs (by simpa using hn.symm) ?_
    exact h w (show _ = _ by simpa [splice] using hg) (Off.refl _ _)
  · obtain ⟨rfl, ad, rfl, hsrc⟩ := hpos (by omega)
    refine wpList_copy_own hgd d s dT sT ho elem hu hsz g off dLen dCap ad sLen sCap hd hs cur.toArray t hg cs hn hsrc (by simpa using hfit) h1 ?_
    exact h _ (show _ = _ by simpa [splice] using setRow_heap w g _ _ t _ hg) ⟨rfl, rfl, rfl, by simp [World.setRow], fun k hk hs => setRow_other w g k _ hs⟩

/-- The same as a step of a region that draws its order. -/
theorem step_copy_at {P : Program} {ops : Array Oper} {o : Oper} {a : Act} {w : World} {K : Act → World → Prop} {Q : Exit → Act → World → Prop} {E : Prop} (hgd : o.guard = none) (d s : Operand) (dT sT : TypeId)
    (ho : o.op = .call { callee := .builtin .copy, args := #[d, s], argTypes := #[dT, sT] }) (elem : TypeId) (hu : P.underlying dT = some (.slice elem)) (hsz : (P.info? elem).map (·.size) = some 1)
    (dp sp : Option Addr) (dLen dCap sLen sCap : Nat) (hd : a.eval d = .slice dp dLen dCap) (hs : a.eval s = .slice sp sLen sCap)
    (g off : Nat) (cur : List Value) (t : TypeId) (hg : w.heap[g]? = some (.cells cur.toArray t (0, 0))) (cs : List Value) (n : Nat) (hl : cs.length = n) (hn : n = Nat.min sLen dLen)
    (hpos : 0 < n → dp = some ⟨g, off, none⟩ ∧ ∃ ad, sp = some ad ∧ ∀ j v, cs[j]? = some v → w.cell? (ad.add j) = some v)
    (hfit : off + n ≤ cur.length) (h1 : ∀ v ∈ cs, v.oneCell' = true)
    (h : ∀ w', Hid (w'.heap[g]? = some (.cells (splice cur off cs).toArray t (0, 0))) → Off (fun k => k = g) w w' → K (a.put o.dst (goInt n)) w') :
    if Region.wanted o (yielded ops a.tmps) = true then Oper.wp P o a w K Q else E := by
  subst hl
  have hw : Region.wanted o (yielded ops a.tmps) = true := by simp [Region.wanted, hgd]
  rw [if_pos hw]
  by_cases h0 : cs.length = 0
  · obtain rfl : cs = [] := List.eq_nil_of_length_eq_zero h0
    have hrun := run_copy_none (P := P) w dT sT o.type elem dp sp dLen dCap sLen sCap hu hsz (by simpa using hn.symm)
    unfold Oper.wp
    simp [execOp, ho, resolve, invoke, builtin, hd, hs, hrun, Result.andThen]
    exact h w (show _ = _ by simpa [splice] using hg) (Off.refl _ _)
  · obtain ⟨rfl, ad, rfl, hsrc⟩ := hpos (by omega)
    have hrun := run_copy_row (P := P) w dT sT o.type elem g off dLen dCap ad sLen sCap cur.toArray t cs hu hsz hg hn hsrc (by simpa using hfit) h1
    unfold Oper.wp
    simp [execOp, ho, resolve, invoke, builtin, hd, hs, hrun, Result.andThen]
    exact h _ (show _ = _ by simpa [splice] using setRow_heap w g _ _ t _ hg) ⟨rfl, rfl, rfl, by simp [World.setRow], fun k hk hs => setRow_other w g k _ hs⟩

/-- Block g is a queue, its places in block p: for M bytes, the first one at place f; qs wait. -/
structure QAt (T : TypeId) (X : List Value) (w : World) (g p M f : Nat) (qs : List Int) : Prop where
  ne : g ≠ p
  most : M ≤ 65536
  head : WholeV w g T (.slice (some ⟨p, 0, none⟩) M M :: .int .i64 (f : Int) :: .int .i64 (qs.length : Int) :: X)
  holds : ∃ pl, Whole .u8 w p 5 pl ∧ Holds pl M f qs
/-- A queue alone, and not within something else. -/
abbrev RingAt (w : World) (g p M f : Nat) (qs : List Int) : Prop := QAt 118 [] w g p M f qs

theorem QAt.len {T : TypeId} {X : List Value} {w : World} {g p M f : Nat} {qs : List Int} (h : QAt T X w g p M f qs) : qs.length ≤ M := by
  obtain ⟨pl, _, hh⟩ := h.holds
  exact hh.2.1
theorem QAt.first {T : TypeId} {X : List Value} {w : World} {g p M f : Nat} {qs : List Int} (h : QAt T X w g p M f qs) : f ≤ M ∧ (0 < M → f < M) := by
  obtain ⟨pl, _, hh⟩ := h.holds
  exact ⟨hh.2.2.1, hh.2.2.2.1⟩
theorem QAt.lt {T : TypeId} {X : List Value} {w : World} {g p M f : Nat} {qs : List Int} (h : QAt T X w g p M f qs) : g < w.heap.size ∧ p < w.heap.size := by
  obtain ⟨pl, hw, _⟩ := h.holds
  exact ⟨h.head.lt, hw.lt⟩
theorem QAt.off {S : Nat → Prop} {T : TypeId} {X : List Value} {w w' : World} {g p M f : Nat} {qs : List Int} (h : QAt T X w g p M f qs) (ho : Off S w w') (hg : ¬ S g) (hp : ¬ S p) : QAt T X w' g p M f qs :=
  ⟨h.ne, h.most, ho.whole h.head hg, by
    obtain ⟨pl, hw, hh⟩ := h.holds
    exact ⟨pl, ho.wholeI hw hp, hh⟩⟩
theorem QAt.below {T : TypeId} {X : List Value} {w w' : World} {g p M f : Nat} {qs : List Int} (h : QAt T X w g p M f qs) (hb : Below w.heap.size w w') : QAt T X w' g p M f qs := h.off (S := fun _ => False) (Off.of_below hb) id id
theorem QAt.drewN {T : TypeId} {X : List Value} {w : World} {g p M f : Nat} {qs : List Int} (h : QAt T X w g p M f qs) (d : Nat) : QAt T X (w.drewN d) g p M f qs := ⟨h.ne, h.most, h.head, h.holds⟩

section
variable {T : TypeId} {X : List Value} (w : World) (g p M f : Nat) (qs : List Int)

theorem len_any (h : QAt T X w g p M f qs) : Calls Try.prog 79 #[.pointer (some ⟨g, 0, none⟩)] w fun e w' => e = .returned (.int .i64 (qs.length : Int)) ∧ w = w' := by
  have h2 := h.head.cell 2
  simp only [List.getElem?_cons_succ, List.getElem?_cons_zero] at h2
  clear h
  go_enter Try.func79, Try.ntmps79
  go_wp2
  go_ret
  exact ⟨rfl, rfl⟩

theorem room_any (h : QAt T X w g p M f qs) : Calls Try.prog 114 #[.pointer (some ⟨g, 0, none⟩)] w (Quiet (.int .i64 ((M : Int) - (qs.length : Int))) w) := by
  have h0 := h.head.cell 0
  have h2 := h.head.cell 2
  have hm := h.most
  have hl := h.len
  simp only [List.getElem?_cons_succ, List.getElem?_cons_zero] at h0 h2
  clear h
  obtain ⟨q, hq⟩ : ∃ q, qs.length = q := ⟨_, rfl⟩
  rw [hq] at h2 hl ⊢
  clear hq
  have hw : IntKind.i64.wrap ((M : Int) - (q : Int)) = (M : Int) - (q : Int) := IntWalk.i64_in _ (by omega)
  go_enter Try.func114, Try.ntmps114
  go_wp2
  go_quiet (fail)
  go_wp2
  go_ret
  exact ⟨rfl, _, rfl⟩

theorem place_any (i : Nat) (h : QAt T X w g p M f qs) (hi : i ≤ 65536) : Calls Try.prog 115 #[.pointer (some ⟨g, 0, none⟩), .int .i64 (i : Int)] w (Quiet (.int .i64 (plc M f i : Int)) w) := by
  have h0 := h.head.cell 0
  have h1 := h.head.cell 1
  have hm := h.most
  obtain ⟨hf1, hf2⟩ := h.first
  simp only [List.getElem?_cons_succ, List.getElem?_cons_zero] at h0 h1
  clear h
  rcases Nat.eq_zero_or_pos M with h | h
  · subst h
    go_enter Try.func115, Try.ntmps115
    go_wp2
    go_ret
    exact ⟨rfl, 0, rfl⟩
  · have hp : plc M f i = (f + i) % M := by unfold plc; rw [if_neg (by omega)]
    have hw : IntKind.i64.wrap ((f : Int) + (i : Int)) = (f : Int) + (i : Int) := IntWalk.i64_in _ (by omega)
    have ht : ((f : Int) + (i : Int)).tmod (M : Int) = ((plc M f i : Nat) : Int) := by
      rw [hp, Int.tmod_eq_emod_of_nonneg (by omega)]
      simp
    have hne : ((M : Int) == 0) = false := beq_eq_false_iff_ne.2 (by omega)
    have hne2 : (M == 0) = false := beq_eq_false_iff_ne.2 (by omega)
    obtain ⟨P, hP⟩ : ∃ P, plc M f i = P := ⟨_, rfl⟩
    rw [hP] at ht ⊢
    have hPM : P < M := by rw [← hP]; exact plc_lt h
    have hwP : IntKind.i64.wrap (P : Int) = (P : Int) := IntWalk.i64_in _ (by omega)
    clear hp hP
    go_enter Try.func115, Try.ntmps115
    go_wp2
    go_quiet (fail)
    go_wp2
    go_ret
    exact ⟨rfl, _, rfl⟩

end

theorem new_made (w w' : World) (M : Nat) (hM : M ≤ 65536) (h : w' = (w.alloc (.cells (Array.replicate M (Value.int .u8 0)) 5)).alloc (.cells #[.slice (some ⟨w.heap.size, 0, none⟩) M M, .int .i64 0, .int .i64 0] 118)) :
    RingAt w' (w.heap.size + 1) w.heap.size M 0 [] ∧ w.heap.size ≤ w.heap.size + 1 ∧ w.heap.size ≤ w.heap.size ∧ Below w.heap.size w w' := by
  subst h
  refine ⟨⟨by omega, hM, ?_, List.replicate M 0, ?_, holds_new M⟩, by omega, by omega, ((Below.refl _ _).alloc (Nat.le_refl _) _).alloc (by simp) _⟩
  · have := heap_alloc_new (w.alloc (.cells (Array.replicate M (Value.int .u8 0)) 5)) (.cells #[.slice (some ⟨w.heap.size, 0, none⟩) M M, .int .i64 0, .int .i64 0] 118)
    simpa [WholeV] using this
  · unfold Whole
    rw [show ((List.replicate M (0 : Int)).map (Value.int .u8)).toArray = Array.replicate M (Value.int .u8 0) by simp]
    exact (Below.heap_alloc _ _ _ (by simp)).trans (heap_alloc_new w _)

/-- A new queue was returned. -/
def NewRing (M : Nat) (w : World) (e : Ending) (w' : World) : Prop := ∃ g p, e = .returned (.pointer (some ⟨g, 0, none⟩)) ∧ RingAt w' g p M 0 [] ∧ w.heap.size ≤ g ∧ w.heap.size ≤ p ∧ Below w.heap.size w w'

theorem new_any (most : Int) (M : Nat) (w : World) (h0 : -9223372036854775808 ≤ most) (h1 : most ≤ 9223372036854775807) (hM : (M : Int) = if 65536 < (if most < 0 then 0 else most) then 65536 else (if most < 0 then 0 else most)) :
    Calls Try.prog 113 #[.int .i64 most] w (NewRing M w) := by
  have hM2 : M ≤ 65536 := by split at hM <;> split at hM <;> omega
  have hmk : ∀ (K : Int) (W : World), K = (M : Int) → (Instr.makeSlice 22 (.int .i64 K) (.int .i64 K)).run Try.prog W = .ok (.slice (some ⟨W.heap.size, 0, none⟩) M M) (W.alloc (.cells ((List.replicate M (0 : Int)).map (Value.int .u8)).toArray 5)) := by
    intro K W e
    subst e
    exact make_bytes M (by omega) W
  by_cases hn : most < 0
  · have HM : Hid (0 = (M : Int)) := by show (0 : Int) = (M : Int); rw [hM, if_pos hn]; rfl
    have hm := fun W => hmk 0 W HM.out
    have HN := Lib.hid (new_made w _ M hM2 rfl)
    clear hmk hM hM2 h0
    go_enter Try.func113, Try.ntmps113
    go_wp2
    go_ret
    exact ⟨_, _, rfl, HN.out⟩
  · by_cases hx : 65536 < most
    · have HM : Hid (65536 = (M : Int)) := by show (65536 : Int) = (M : Int); rw [hM, if_neg hn, if_pos hx]
      have hm := fun W => hmk 65536 W HM.out
      have HN := Lib.hid (new_made w _ M hM2 rfl)
      clear hmk hM hM2 h0
      go_enter Try.func113, Try.ntmps113
      go_wp2
      go_ret
      exact ⟨_, _, rfl, HN.out⟩
    · have HM : Hid (most = (M : Int)) := by show most = (M : Int); rw [hM, if_neg hn, if_neg hx]
      have hm := fun W => hmk most W HM.out
      have HN := Lib.hid (new_made w _ M hM2 rfl)
      clear hmk hM hM2 h0
      go_enter Try.func113, Try.ntmps113
      go_wp2
      go_ret
      exact ⟨_, _, rfl, HN.out⟩

/-- The two blocks of a queue. -/
def GP (g p : Nat) : Nat → Prop := fun k => k = g ∨ k = p
theorem map_splice {α β : Type} (h : α → β) (L X : List α) (o : Nat) : (splice L o X).map h = splice (L.map h) o (X.map h) := by simp [splice]

/-- Some cells of a row, in a world that differs in other blocks alone. -/
theorem part_cells {S : Nat → Prop} {w W : World} {b off n : Nat} {zs : List Int} (h : RowOff w S (some ⟨b, off, none⟩) n zs) (ho : Off S w W) (k m : Nat) (hk : k + m ≤ n) :
    ∀ j v, (((zs.drop k).take m).map (Value.int .u8))[j]? = some v → W.cell? (Addr.add ⟨b, off + k, none⟩ j) = some v := by
  intro j v hv
  rw [List.getElem?_map, List.getElem?_take] at hv
  by_cases hj : j < m
  · obtain ⟨b', off', e, hb, hs, hc⟩ := h.2 (by omega)
    injection e with e
    injection e with e1 e2
    subst e1 e2
    have hl := h.1
    rw [if_pos hj, List.getElem?_drop, List.getElem?_eq_getElem (by omega)] at hv
    rw [add_none, ho.cell (p := ⟨b, off + k + j, none⟩) hb hs, Nat.add_assoc, hc (k + j) (by omega), ← hv, List.getD_eq_getElem?_getD, List.getElem?_eq_getElem (by omega)]
    rfl
  · rw [if_neg hj] at hv
    cases hv

section
variable {T : TypeId} {X : List Value} (w : World) (g p M f : Nat) (qs : List Int)

/-- What Put leaves. -/
def QPut (T : TypeId) (X : List Value) (m : Nat) (zs : List Int) (e : Ending) (w' : World) : Prop := e = .returned (.int .i64 (m : Int)) ∧ QAt T X w' g p M f (qs ++ zs.take m) ∧ Off (GP g p) w w'
/-- The same of a queue alone. -/
abbrev Putten (m : Nat) (zs : List Int) (e : Ending) (w' : World) : Prop := QPut w g p M f qs 118 [] m zs e w'

theorem putten_end (h : QAt T X w g p M f qs) (zs : List Int) (n m e k : Nat) (pl : List Int) (hz : zs.length = n) (hm : m ≤ n) (hq : qs.length + m ≤ M) (he : e = plc M f qs.length) (hk : k = min m (M - e)) (hpl : Holds pl M f qs)
    (w5 : World) (ho : Off (GP g p) w w5) (hg : WholeV w5 g T (.slice (some ⟨p, 0, none⟩) M M :: .int .i64 (f : Int) :: .int .i64 (qs.length : Int) :: X))
    (hp : w5.heap[p]? = some (.cells (splice (splice (pl.map (Value.int .u8)) e (((zs.take m).take k).map (Value.int .u8))) 0 (((zs.take m).drop k).map (Value.int .u8))).toArray 5 (0, 0))) :
    QPut w g p M f qs T X m zs (.returned (.int .i64 (m : Int))) (w5.setCell ⟨g, 2, none⟩ (.int .i64 ((qs.length : Int) + (m : Int)))) := by
  have hl : (zs.take m).length = m := by rw [List.length_take]; omega
  refine ⟨rfl, ⟨h.ne, h.most, ?_, splice (splice pl e ((zs.take m).take k)) 0 ((zs.take m).drop k), ?_, holds_put hpl (zs.take m) m e k hl hq he hk⟩, ho.setCell (.inl (.inl rfl)) _⟩
  · have hs := hg.set 2 (.int .i64 ((qs.length : Int) + (m : Int)))
    rw [List.length_append, hl, Int.natCast_add]
    exact hs
  · unfold Whole
    rw [Below.heap_setCell _ _ _ _ (Ne.symm h.ne), hp, map_splice, map_splice]

set_option maxRecDepth 100000 in
set_option maxHeartbeats 1000000 in
theorem put_some (b off n c : Nat) (zs : List Int) (m R : Nat) (h : QAt T X w g p M f qs) (hr : RowOff w (GP g p) (some ⟨b, off, none⟩) n zs) (hn : n ≤ 100000) (hc : n ≤ c) (hR : qs.length + R = M) (hm : (R < n ∧ m = R) ∨ (n ≤ R ∧ m = n)) (hm0 : 0 < m) :
    Calls Try.prog 72 #[.pointer (some ⟨g, 0, none⟩), .slice (some ⟨b, off, none⟩) n c] w (QPut w g p M f qs T X m zs) := by
  have h0 := h.head.cell 0
  have h2 := h.head.cell 2
  simp only [List.getElem?_cons_succ, List.getElem?_cons_zero] at h0 h2
  have hM := h.most
  obtain ⟨hf1, hf2⟩ := h.first
  obtain ⟨pl, HP, HH⟩ := h.holds
  have HE := Lib.hid (fun w5 => putten_end w g p M f qs h zs n m (plc M f qs.length) (min m (M - plc M f qs.length)) pl hr.1 (by omega) (by omega) rfl rfl HH w5)
  have CR := Lib.hid (room_any w g p M f qs h)
  have CP := Lib.hid (fun d => place_any (w.drewN d) g p M f qs qs.length (h.drewN d) (by omega))
  have HG := Lib.hid h.head
  have HNE := Lib.hid h.ne
  have he := plc_lt (M := M) (f := f) (i := qs.length) (by omega)
  obtain ⟨e, hee⟩ : ∃ e, plc M f qs.length = e := ⟨_, rfl⟩
  rw [hee] at HE CP he
  obtain ⟨k, hk⟩ : ∃ k, min m (M - e) = k := ⟨_, rfl⟩
  rw [hk] at HE
  obtain ⟨q, hq⟩ : ∃ q, qs.length = q := ⟨_, rfl⟩
  rw [hq] at HE CR CP HG h2 hR
  rw [show ((M : Int) - (q : Int)) = (R : Int) by omega] at CR
  obtain ⟨X1, hX1⟩ : ∃ X1, X1 = ((zs.take m).take k).map (Value.int .u8) := ⟨_, rfl⟩
  obtain ⟨X2, hX2⟩ : ∃ X2, X2 = ((zs.take m).drop k).map (Value.int .u8) := ⟨_, rfl⟩
  rw [← hX1, ← hX2] at HE
  have hzl := hr.1
  have HL1 : Hid (X1.length = k) := by show X1.length = k; rw [hX1, List.length_map, List.length_take, List.length_take]; omega
  have HL2 : Hid (X2.length = m - k) := by show X2.length = m - k; rw [hX2, List.length_map, List.length_drop, List.length_take]; omega
  have H1 : Hid (∀ u ∈ X1, u.oneCell' = true) := by rw [hX1]; exact one_cells _ _
  have H2 : Hid (∀ u ∈ X2, u.oneCell' = true) := by rw [hX2]; exact one_cells _ _
  have HS1 : Hid (∀ W, Off (GP g p) w W → ∀ j v, X1[j]? = some v → W.cell? (Addr.add ⟨b, off, none⟩ j) = some v) := by
    intro W hW
    rw [hX1, List.take_take, Nat.min_eq_left (show k ≤ m by omega)]
    exact part_cells hr hW 0 k (by omega)
  have HS2 : Hid (∀ W, Off (GP g p) w W → ∀ j v, X2[j]? = some v → W.cell? (Addr.add ⟨b, off + k, none⟩ j) = some v) := by
    intro W hW
    rw [hX2, List.drop_take]
    exact part_cells hr hW k (m - k) (by omega)
  have HPL : Hid ((pl.map (Value.int .u8)).length = M) := by show _ = _; rw [List.length_map]; exact HH.1
  have HW : Hid (w.heap[p]? = some (.cells (pl.map (Value.int .u8)).toArray 5 (0, 0))) := HP
  have HK := Lib.hid hk
  have hk1 : k ≤ m := by omega
  have hk2 : e + k ≤ M := by omega
  have hqR := hR
  have hlenR : (R : Int) ≤ 65536 := by omega
  have heM : (e : Int) ≤ (M : Int) := by omega
  have hmn : (m : Int) ≤ (n : Int) := by omega
  have hmc : (m : Int) ≤ (c : Int) := by omega
  have hkm : (k : Int) ≤ (m : Int) := by omega
  have hne1 : ¬ M = e := by omega
  have hqm : (q : Int) + (m : Int) ≤ 65536 := by omega
  have hmM : m ≤ M := by omega
  have HHM := Lib.hid hm
  have HRR := Lib.hid hR
  clear h hr HH HP hee hk hq hX1 hX2 hzl hR hqR hm hf1 hf2 hM
  rcases HHM.out with ⟨hlt, hmR⟩ | ⟨hle, hmn2⟩
  · subst hmR
    clear HHM
    go_enter Try.func72, Try.ntmps72
    go_wp2_with (first
      | (go_at_call 114; (with_reducible refine CR.out.mono ?_); rintro e w1 ⟨rfl, d1, rfl⟩)
      | (go_at_call 115; (with_reducible refine (CP.out _).mono ?_); rintro e w1 ⟨rfl, d2, rfl⟩))
    go_region_law (first
      | (refine step_copy_at rfl (.tmp 24) (.tmp 27) 22 22 rfl 5 Try.underlying22 (by kernel_rfl) (some ⟨p, e, none⟩) (some ⟨b, off, none⟩) (M - e) (M - e) m c rfl rfl p e (pl.map (Value.int .u8)) 5 HW.out X1 k HL1.out HK.out.symm (fun _ => ⟨rfl, _, rfl, HS1.out _ ((Off.refl _ w).drewN _).drew⟩) (by rw [HPL.out]; exact hk2) H1.out ?_
         intro w4 HG4 hO4
         have HO4 : Hid (Off (GP g p) w w4) := (((Off.refl (GP g p) w).drewN _).drew).trans (hO4.mono (T := GP g p) (fun i hi => .inr hi)) (fun i hi => .inl hi)
         have HH4 : Hid (WholeV w4 g T (.slice (some ⟨p, 0, none⟩) M M :: .int .i64 (f : Int) :: .int .i64 (q : Int) :: X)) := hO4.whole HG.out (fun e => HNE.out e)
         have h40 := HH4.out.cell 0
         simp only [List.getElem?_cons_succ, List.getElem?_cons_zero] at h40
         clear hO4))
    all_goals
      go_wp2
      by_cases hck : c = k
      · exact absurd hck (by omega)
      · have hck2 : ¬ (c : Int) = (k : Int) := by omega
        go_region_law (first
          | (refine step_copy_at rfl (.tmp 32) (.tmp 36) 22 22 rfl 5 Try.underlying22 (by kernel_rfl) (some ⟨p, 0, none⟩) (some ⟨b, off + k, none⟩) M M (m - k) (c - k) rfl rfl p 0 (splice (pl.map (Value.int .u8)) e X1) 5 HG4.out X2 (m - k) HL2.out (by show m - k = min (m - k) M; omega) (fun _ => ⟨rfl, _, rfl, HS2.out _ HO4.out.drew⟩) (by rw [length_splice _ _ _ (by rw [HPL.out, HL1.out]; exact hk2), HPL.out]; omega) H2.out ?_
             intro w5 HG5 hO5
             have HO5 : Hid (Off (GP g p) w w5) := HO4.out.drew.trans (hO5.mono (T := GP g p) (fun i hi => .inr hi)) (fun i hi => .inl hi)
             have HH5 : Hid (WholeV w5 g T (.slice (some ⟨p, 0, none⟩) M M :: .int .i64 (f : Int) :: .int .i64 (q : Int) :: X)) := hO5.whole HH4.out (fun e => HNE.out e)
             have h52 := HH5.out.cell 2
             simp only [List.getElem?_cons_succ, List.getElem?_cons_zero] at h52
             have hf52 := HH5.out.frozen 2
             clear hO5))
        all_goals
          go_wp2
          go_ret
          exact HE.out w5 HO5.out HH5.out HG5.out
  · subst hmn2
    clear HHM
    go_enter Try.func72, Try.ntmps72
    go_wp2_with (first
      | (go_at_call 114; (with_reducible refine CR.out.mono ?_); rintro e w1 ⟨rfl, d1, rfl⟩)
      | (go_at_call 115; (with_reducible refine (CP.out _).mono ?_); rintro e w1 ⟨rfl, d2, rfl⟩))
    go_region_law (first
      | (refine step_copy_at rfl (.tmp 24) (.tmp 27) 22 22 rfl 5 Try.underlying22 (by kernel_rfl) (some ⟨p, e, none⟩) (some ⟨b, off, none⟩) (M - e) (M - e) m c rfl rfl p e (pl.map (Value.int .u8)) 5 HW.out X1 k HL1.out HK.out.symm (fun _ => ⟨rfl, _, rfl, HS1.out _ ((Off.refl _ w).drewN _).drew⟩) (by rw [HPL.out]; exact hk2) H1.out ?_
         intro w4 HG4 hO4
         have HO4 : Hid (Off (GP g p) w w4) := (((Off.refl (GP g p) w).drewN _).drew).trans (hO4.mono (T := GP g p) (fun i hi => .inr hi)) (fun i hi => .inl hi)
         have HH4 : Hid (WholeV w4 g T (.slice (some ⟨p, 0, none⟩) M M :: .int .i64 (f : Int) :: .int .i64 (q : Int) :: X)) := hO4.whole HG.out (fun e => HNE.out e)
         have h40 := HH4.out.cell 0
         simp only [List.getElem?_cons_succ, List.getElem?_cons_zero] at h40
         clear hO4))
    all_goals
      go_wp2
      by_cases hck : c = k
      · have HX0 : Hid (X2.length = 0) := by show _ = _; rw [HL2.out]; omega
        have hkm2 : m = k := by omega
        subst hck
        subst hkm2
        go_region_law (first
          | (refine step_copy_at rfl (.tmp 32) (.tmp 36) 22 22 rfl 5 Try.underlying22 (by kernel_rfl) (some ⟨p, 0, none⟩) (some ⟨b, off, none⟩) M M 0 0 rfl rfl p 0 (splice (pl.map (Value.int .u8)) e X1) 5 HG4.out X2 0 HX0.out (by show 0 = min 0 M; omega) (fun h => absurd h (by omega)) (by rw [length_splice _ _ _ (by rw [HPL.out, HL1.out]; exact hk2), HPL.out]; omega) H2.out ?_
             intro w5 HG5 hO5
             have HO5 : Hid (Off (GP g p) w w5) := HO4.out.drew.trans (hO5.mono (T := GP g p) (fun i hi => .inr hi)) (fun i hi => .inl hi)
             have HH5 : Hid (WholeV w5 g T (.slice (some ⟨p, 0, none⟩) M M :: .int .i64 (f : Int) :: .int .i64 (q : Int) :: X)) := hO5.whole HH4.out (fun e => HNE.out e)
             have h52 := HH5.out.cell 2
             simp only [List.getElem?_cons_succ, List.getElem?_cons_zero] at h52
             have hf52 := HH5.out.frozen 2
             clear hO5))
        all_goals
          go_wp2
          go_ret
          exact HE.out w5 HO5.out HH5.out HG5.out
      · have hck2 : ¬ (c : Int) = (k : Int) := by omega
        go_region_law (first
          | (refine step_copy_at rfl (.tmp 32) (.tmp 36) 22 22 rfl 5 Try.underlying22 (by kernel_rfl) (some ⟨p, 0, none⟩) (some ⟨b, off + k, none⟩) M M (m - k) (c - k) rfl rfl p 0 (splice (pl.map (Value.int .u8)) e X1) 5 HG4.out X2 (m - k) HL2.out (by show m - k = min (m - k) M; omega) (fun _ => ⟨rfl, _, rfl, HS2.out _ HO4.out.drew⟩) (by rw [length_splice _ _ _ (by rw [HPL.out, HL1.out]; exact hk2), HPL.out]; omega) H2.out ?_
             intro w5 HG5 hO5
             have HO5 : Hid (Off (GP g p) w w5) := HO4.out.drew.trans (hO5.mono (T := GP g p) (fun i hi => .inr hi)) (fun i hi => .inl hi)
             have HH5 : Hid (WholeV w5 g T (.slice (some ⟨p, 0, none⟩) M M :: .int .i64 (f : Int) :: .int .i64 (q : Int) :: X)) := hO5.whole HH4.out (fun e => HNE.out e)
             have h52 := HH5.out.cell 2
             simp only [List.getElem?_cons_succ, List.getElem?_cons_zero] at h52
             have hf52 := HH5.out.frozen 2
             clear hO5))
        all_goals
          go_wp2
          go_ret
          exact HE.out w5 HO5.out HH5.out HG5.out

theorem putten_none (h : QAt T X w g p M f qs) (zs : List Int) (w5 : World) (ho : Off (fun k => k = p) w w5) (hp : w5.heap[p]? = w.heap[p]?) :
    QPut w g p M f qs T X 0 zs (.returned (.int .i64 0)) (w5.setCell ⟨g, 2, none⟩ (.int .i64 (qs.length : Int))) := by
  obtain ⟨pl, HP, HH⟩ := h.holds
  refine ⟨rfl, ?_, (ho.mono (T := GP g p) (fun i hi => .inr hi)).setCell (.inl (.inl rfl)) _⟩
  rw [List.take_zero, List.append_nil]
  refine ⟨h.ne, h.most, ?_, pl, ?_, HH⟩
  · exact (ho.whole h.head (fun e => h.ne e)).set 2 (.int .i64 (qs.length : Int))
  · exact (Below.heap_setCell _ _ _ _ (Ne.symm h.ne)).trans (hp.trans HP)

set_option maxRecDepth 100000 in
set_option maxHeartbeats 1000000 in
theorem put_none (A : Option Addr) (n c : Nat) (zs : List Int) (R : Nat) (h : QAt T X w g p M f qs) (hn : n ≤ 100000) (hR : qs.length + R = M) (hm : (R < n ∧ R = 0) ∨ n = 0) :
    Calls Try.prog 72 #[.pointer (some ⟨g, 0, none⟩), .slice A n c] w (QPut w g p M f qs T X 0 zs) := by
  have h0 := h.head.cell 0
  have h2 := h.head.cell 2
  simp only [List.getElem?_cons_succ, List.getElem?_cons_zero] at h0 h2
  have hM := h.most
  obtain ⟨hf1, hf2⟩ := h.first
  obtain ⟨pl, HP, HH⟩ := h.holds
  have HE := Lib.hid (fun w5 => putten_none w g p M f qs h zs w5)
  have CR := Lib.hid (room_any w g p M f qs h)
  have CP := Lib.hid (fun d => place_any (w.drewN d) g p M f qs qs.length (h.drewN d) (by omega))
  have HG := Lib.hid h.head
  have HNE := Lib.hid h.ne
  have he : (M = 0 ∧ plc M f qs.length = 0) ∨ (0 < M ∧ plc M f qs.length < M) := by
    rcases Nat.eq_zero_or_pos M with h | h
    · exact .inl ⟨h, by subst h; rfl⟩
    · exact .inr ⟨h, plc_lt h⟩
  obtain ⟨e, hee⟩ : ∃ e, plc M f qs.length = e := ⟨_, rfl⟩
  rw [hee] at CP he
  obtain ⟨q, hq⟩ : ∃ q, qs.length = q := ⟨_, rfl⟩
  rw [hq] at HE CR CP HG h2 hR
  rw [show ((M : Int) - (q : Int)) = (R : Int) by omega] at CR
  have HPL : Hid ((pl.map (Value.int .u8)).length = M) := by show _ = _; rw [List.length_map]; exact HH.1
  have HW : Hid (w.heap[p]? = some (.cells (pl.map (Value.int .u8)).toArray 5 (0, 0))) := HP
  have hlenR : (R : Int) ≤ 65536 := by omega
  have hqm : (q : Int) ≤ 65536 := by omega
  have HHE := Lib.hid he
  have HHM := Lib.hid hm
  clear h HH HP hee hq hR hm hf1 hf2 hM he
  rcases HHE.out with ⟨hM0, he0⟩ | ⟨hM1, he1⟩
  · subst hM0
    subst he0
    rcases HHM.out with ⟨hlt, hmR⟩ | hn0
    · subst hmR
      clear HHM HHE
      go_enter Try.func72, Try.ntmps72
      go_wp2_with (first
        | (go_at_call 114; (with_reducible refine CR.out.mono ?_); rintro e w1 ⟨rfl, d1, rfl⟩)
        | (go_at_call 115; (with_reducible refine (CP.out _).mono ?_); rintro e w1 ⟨rfl, d2, rfl⟩))
      go_region_law (first
        | (refine step_copy_at rfl (.tmp 24) (.tmp 27) 22 22 rfl 5 Try.underlying22 (by kernel_rfl) (some ⟨p, 0, none⟩) A 0 0 0 c rfl rfl p 0 (pl.map (Value.int .u8)) 5 HW.out [] 0 rfl (by simp [Nat.min_def]) (fun h => absurd h (by omega)) (by omega) (fun v hv => by cases hv) ?_
           intro w4 HG4 hO4
           have HO4 : Hid (Off (fun k => k = p) w w4) := (((Off.refl (fun k => k = p) w).drewN _).drew).trans hO4 (fun i hi => .inl hi)
           have HH4 : Hid (WholeV w4 g T (.slice (some ⟨p, 0, none⟩) 0 0 :: .int .i64 (f : Int) :: .int .i64 (q : Int) :: X)) := hO4.whole HG.out (fun e => HNE.out e)
           have h40 := HH4.out.cell 0
           simp only [List.getElem?_cons_succ, List.getElem?_cons_zero] at h40
           clear hO4))
      all_goals
        go_wp2
        go_region_law (first
          | (refine step_copy_at rfl (.tmp 32) (.tmp 36) 22 22 rfl 5 Try.underlying22 (by kernel_rfl) (some ⟨p, 0, none⟩) A 0 0 0 c rfl rfl p 0 (splice (pl.map (Value.int .u8)) 0 []) 5 HG4.out [] 0 rfl (by simp [Nat.min_def]) (fun h => absurd h (by omega)) (by omega) (fun v hv => by cases hv) ?_
             intro w5 HG5 hO5
             have HO5 : Hid (Off (fun k => k = p) w w5) := HO4.out.drew.trans hO5 (fun i hi => .inl hi)
             have HH5 : Hid (WholeV w5 g T (.slice (some ⟨p, 0, none⟩) 0 0 :: .int .i64 (f : Int) :: .int .i64 (q : Int) :: X)) := hO5.whole HH4.out (fun e => HNE.out e)
             have h52 := HH5.out.cell 2
             simp only [List.getElem?_cons_succ, List.getElem?_cons_zero] at h52
             have hf52 := HH5.out.frozen 2
             clear hO5))
        all_goals
          go_wp2
          go_ret
          exact HE.out w5 HO5.out ((show _ = _ from HG5.out).trans (by simp [splice]; exact HW.out.symm))
    · subst hn0
      clear HHM HHE
      go_enter Try.func72, Try.ntmps72
      go_wp2_with (first
        | (go_at_call 114; (with_reducible refine CR.out.mono ?_); rintro e w1 ⟨rfl, d1, rfl⟩)
        | (go_at_call 115; (with_reducible refine (CP.out _).mono ?_); rintro e w1 ⟨rfl, d2, rfl⟩))
      go_region_law (first
        | (refine step_copy_at rfl (.tmp 24) (.tmp 27) 22 22 rfl 5 Try.underlying22 (by kernel_rfl) (some ⟨p, 0, none⟩) A 0 0 0 c rfl rfl p 0 (pl.map (Value.int .u8)) 5 HW.out [] 0 rfl (by simp [Nat.min_def]) (fun h => absurd h (by omega)) (by omega) (fun v hv => by cases hv) ?_
           intro w4 HG4 hO4
           have HO4 : Hid (Off (fun k => k = p) w w4) := (((Off.refl (fun k => k = p) w).drewN _).drew).trans hO4 (fun i hi => .inl hi)
           have HH4 : Hid (WholeV w4 g T (.slice (some ⟨p, 0, none⟩) 0 0 :: .int .i64 (f : Int) :: .int .i64 (q : Int) :: X)) := hO4.whole HG.out (fun e => HNE.out e)
           have h40 := HH4.out.cell 0
           simp only [List.getElem?_cons_succ, List.getElem?_cons_zero] at h40
           clear hO4))
      all_goals
        go_wp2
        go_region_law (first
          | (refine step_copy_at rfl (.tmp 32) (.tmp 36) 22 22 rfl 5 Try.underlying22 (by kernel_rfl) (some ⟨p, 0, none⟩) A 0 0 0 c rfl rfl p 0 (splice (pl.map (Value.int .u8)) 0 []) 5 HG4.out [] 0 rfl (by simp [Nat.min_def]) (fun h => absurd h (by omega)) (by omega) (fun v hv => by cases hv) ?_
             intro w5 HG5 hO5
             have HO5 : Hid (Off (fun k => k = p) w w5) := HO4.out.drew.trans hO5 (fun i hi => .inl hi)
             have HH5 : Hid (WholeV w5 g T (.slice (some ⟨p, 0, none⟩) 0 0 :: .int .i64 (f : Int) :: .int .i64 (q : Int) :: X)) := hO5.whole HH4.out (fun e => HNE.out e)
             have h52 := HH5.out.cell 2
             simp only [List.getElem?_cons_succ, List.getElem?_cons_zero] at h52
             have hf52 := HH5.out.frozen 2
             clear hO5))
        all_goals
          go_wp2
          go_ret
          exact HE.out w5 HO5.out ((show _ = _ from HG5.out).trans (by simp [splice]; exact HW.out.symm))
  · have heM : (e : Int) ≤ (M : Int) := by omega
    have hne1 : ¬ M = e := by omega
    rcases HHM.out with ⟨hlt, hmR⟩ | hn0
    · subst hmR
      clear HHM HHE
      go_enter Try.func72, Try.ntmps72
      go_wp2_with (first
        | (go_at_call 114; (with_reducible refine CR.out.mono ?_); rintro e w1 ⟨rfl, d1, rfl⟩)
        | (go_at_call 115; (with_reducible refine (CP.out _).mono ?_); rintro e w1 ⟨rfl, d2, rfl⟩))
      go_region_law (first
        | (refine step_copy_at rfl (.tmp 24) (.tmp 27) 22 22 rfl 5 Try.underlying22 (by kernel_rfl) (some ⟨p, e, none⟩) A (M - e) (M - e) 0 c rfl rfl p 0 (pl.map (Value.int .u8)) 5 HW.out [] 0 rfl (by simp [Nat.min_def]) (fun h => absurd h (by omega)) (by omega) (fun v hv => by cases hv) ?_
           intro w4 HG4 hO4
           have HO4 : Hid (Off (fun k => k = p) w w4) := (((Off.refl (fun k => k = p) w).drewN _).drew).trans hO4 (fun i hi => .inl hi)
           have HH4 : Hid (WholeV w4 g T (.slice (some ⟨p, 0, none⟩) M M :: .int .i64 (f : Int) :: .int .i64 (q : Int) :: X)) := hO4.whole HG.out (fun e => HNE.out e)
           have h40 := HH4.out.cell 0
           simp only [List.getElem?_cons_succ, List.getElem?_cons_zero] at h40
           clear hO4))
      all_goals
        go_wp2
        go_region_law (first
          | (refine step_copy_at rfl (.tmp 32) (.tmp 36) 22 22 rfl 5 Try.underlying22 (by kernel_rfl) (some ⟨p, 0, none⟩) A M M 0 c rfl rfl p 0 (splice (pl.map (Value.int .u8)) 0 []) 5 HG4.out [] 0 rfl (by simp [Nat.min_def]) (fun h => absurd h (by omega)) (by omega) (fun v hv => by cases hv) ?_
             intro w5 HG5 hO5
             have HO5 : Hid (Off (fun k => k = p) w w5) := HO4.out.drew.trans hO5 (fun i hi => .inl hi)
             have HH5 : Hid (WholeV w5 g T (.slice (some ⟨p, 0, none⟩) M M :: .int .i64 (f : Int) :: .int .i64 (q : Int) :: X)) := hO5.whole HH4.out (fun e => HNE.out e)
             have h52 := HH5.out.cell 2
             simp only [List.getElem?_cons_succ, List.getElem?_cons_zero] at h52
             have hf52 := HH5.out.frozen 2
             clear hO5))
        all_goals
          go_wp2
          go_ret
          exact HE.out w5 HO5.out ((show _ = _ from HG5.out).trans (by simp [splice]; exact HW.out.symm))
    · subst hn0
      clear HHM HHE
      go_enter Try.func72, Try.ntmps72
      go_wp2_with (first
        | (go_at_call 114; (with_reducible refine CR.out.mono ?_); rintro e w1 ⟨rfl, d1, rfl⟩)
        | (go_at_call 115; (with_reducible refine (CP.out _).mono ?_); rintro e w1 ⟨rfl, d2, rfl⟩))
      go_region_law (first
        | (refine step_copy_at rfl (.tmp 24) (.tmp 27) 22 22 rfl 5 Try.underlying22 (by kernel_rfl) (some ⟨p, e, none⟩) A (M - e) (M - e) 0 c rfl rfl p 0 (pl.map (Value.int .u8)) 5 HW.out [] 0 rfl (by simp [Nat.min_def]) (fun h => absurd h (by omega)) (by omega) (fun v hv => by cases hv) ?_
           intro w4 HG4 hO4
           have HO4 : Hid (Off (fun k => k = p) w w4) := (((Off.refl (fun k => k = p) w).drewN _).drew).trans hO4 (fun i hi => .inl hi)
           have HH4 : Hid (WholeV w4 g T (.slice (some ⟨p, 0, none⟩) M M :: .int .i64 (f : Int) :: .int .i64 (q : Int) :: X)) := hO4.whole HG.out (fun e => HNE.out e)
           have h40 := HH4.out.cell 0
           simp only [List.getElem?_cons_succ, List.getElem?_cons_zero] at h40
           clear hO4))
      all_goals
        go_wp2
        go_region_law (first
          | (refine step_copy_at rfl (.tmp 32) (.tmp 36) 22 22 rfl 5 Try.underlying22 (by kernel_rfl) (some ⟨p, 0, none⟩) A M M 0 c rfl rfl p 0 (splice (pl.map (Value.int .u8)) 0 []) 5 HG4.out [] 0 rfl (by simp [Nat.min_def]) (fun h => absurd h (by omega)) (by omega) (fun v hv => by cases hv) ?_
             intro w5 HG5 hO5
             have HO5 : Hid (Off (fun k => k = p) w w5) := HO4.out.drew.trans hO5 (fun i hi => .inl hi)
             have HH5 : Hid (WholeV w5 g T (.slice (some ⟨p, 0, none⟩) M M :: .int .i64 (f : Int) :: .int .i64 (q : Int) :: X)) := hO5.whole HH4.out (fun e => HNE.out e)
             have h52 := HH5.out.cell 2
             simp only [List.getElem?_cons_succ, List.getElem?_cons_zero] at h52
             have hf52 := HH5.out.frozen 2
             clear hO5))
        all_goals
          go_wp2
          go_ret
          exact HE.out w5 HO5.out ((show _ = _ from HG5.out).trans (by simp [splice]; exact HW.out.symm))

end

theorem whole_cells {w W : World} {p : Nat} {t : TypeId} {pl : List Int} (h : Whole .u8 w p t pl) (hb : Below w.heap.size w W) (f k : Nat) :
    ∀ j v, (((pl.drop f).take k).map (Value.int .u8))[j]? = some v → W.cell? (Addr.add ⟨p, f, none⟩ j) = some v := by
  intro j v hv
  rw [List.getElem?_map, List.getElem?_take] at hv
  by_cases hj : j < k
  · rw [if_pos hj, List.getElem?_drop] at hv
    have hl : f + j < pl.length := by
      rcases Nat.lt_or_ge (f + j) pl.length with h | h
      · exact h
      · rw [List.getElem?_eq_none h] at hv; cases hv
    rw [add_none, hb.cell (p := ⟨p, f + j, none⟩) h.lt, h.cell (f + j) hl, ← hv, List.getD_eq_getElem?_getD, List.getElem?_eq_getElem hl]
    rfl
  · rw [if_neg hj] at hv
    cases hv

theorem splice_behind2 (H cs : List Value) (k n : Nat) (z : Value) (hk : H.length = k) (hn : cs.length = n) : splice (H ++ List.replicate n z) k cs = H ++ cs := by
  unfold splice
  subst hk hn
  simp

/-- What Look leaves. -/
def Looked (qs : List Int) (m : Nat) (w : World) (e : Ending) (w' : World) : Prop := ∃ b, e = .returned (.slice (some ⟨b, 0, none⟩) m m) ∧ w.heap.size ≤ b ∧ Whole .u8 w' b 5 (qs.take m) ∧ Below w.heap.size w w'

section
variable {T : TypeId} {X : List Value} (w : World) (g p M f : Nat) (qs : List Int)

theorem looked_end (m k : Nat) (pl : List Int) (hm : m ≤ qs.length) (hk : min m (M - f) = k) (HH : Holds pl M f qs) (w5 : World) (hb : Below w.heap.size w w5)
    (hp : w5.heap[w.heap.size]? = some (.cells (splice (splice (List.replicate m (Value.int .u8 0)) 0 (((pl.drop f).take k).map (Value.int .u8))) k (((pl.drop 0).take (m - k)).map (Value.int .u8))).toArray 5 (0, 0))) :
    Looked qs m w (.returned (.slice (some ⟨w.heap.size, 0, none⟩) m m)) w5 := by
  refine ⟨w.heap.size, rfl, Nat.le_refl _, ?_, hb⟩
  have hl := holds_look HH m k hm hk.symm
  obtain ⟨h1, h2, h3, h4, h5⟩ := HH
  have hl1 : ((pl.drop f).take k).length = k := by rw [List.length_take, List.length_drop]; omega
  have hl2 : (pl.take (m - k)).length = m - k := by rw [List.length_take]; omega
  unfold Whole
  rw [hp, ← hl, List.drop_zero]
  obtain ⟨r, hr⟩ : ∃ r, m = k + r := ⟨m - k, by omega⟩
  subst hr
  rw [splice_any k r _ _ (by rw [List.length_map]; exact hl1), splice_behind2 _ _ k r _ (by rw [List.length_map]; exact hl1) (by rw [List.length_map, hl2]; omega), List.map_append]

set_option maxRecDepth 100000 in
set_option maxHeartbeats 2000000 in
theorem look_core (n : Int) (m : Nat) (h : QAt T X w g p M f qs) (hm : (n < 0 ∧ m = 0) ∨ (0 ≤ n ∧ n = (m : Int) ∧ m ≤ qs.length) ∨ ((qs.length : Int) < n ∧ m = qs.length)) :
    Calls Try.prog 117 #[.pointer (some ⟨g, 0, none⟩), .int .i64 n] w (Looked qs m w) := by
  have h0 := h.head.cell 0
  have h1 := h.head.cell 1
  have h2 := h.head.cell 2
  simp only [List.getElem?_cons_succ, List.getElem?_cons_zero] at h0 h1 h2
  have hM := h.most
  have hlen := h.len
  obtain ⟨hf1, hf2⟩ := h.first
  obtain ⟨pl, HP, HH⟩ := h.holds
  have hmq : m ≤ qs.length := by omega
  have HE := Lib.hid (fun w5 => looked_end w M f qs m (min m (M - f)) pl hmq rfl HH w5)
  have hmk : Hid (∀ (K : Int) (W : World), K = (m : Int) → (Instr.makeSlice 22 (.int .i64 K) (.int .i64 K)).run Try.prog W = .ok (.slice (some ⟨W.heap.size, 0, none⟩) m m) (W.alloc (.cells (Array.replicate m (Value.int .u8 0)) 5))) := by
    intro K W e
    subst e
    have := make_bytes m (by omega) W
    rw [this]
    simp
  obtain ⟨k, hk⟩ : ∃ k, min m (M - f) = k := ⟨_, rfl⟩
  rw [hk] at HE
  obtain ⟨hgl, hpl⟩ := h.lt
  obtain ⟨X1, hX1⟩ : ∃ X1, X1 = ((pl.drop f).take k).map (Value.int .u8) := ⟨_, rfl⟩
  obtain ⟨X2, hX2⟩ : ∃ X2, X2 = ((pl.drop 0).take (m - k)).map (Value.int .u8) := ⟨_, rfl⟩
  rw [← hX1, ← hX2] at HE
  have hpll := HH.1
  have HL1 : Hid (X1.length = k) := by show X1.length = k; rw [hX1, List.length_map, List.length_take, List.length_drop]; omega
  have HL2 : Hid (X2.length = m - k) := by show X2.length = m - k; rw [hX2, List.length_map, List.length_take, List.length_drop]; omega
  have H1 : Hid (∀ u ∈ X1, u.oneCell' = true) := by rw [hX1]; exact one_cells _ _
  have H2 : Hid (∀ u ∈ X2, u.oneCell' = true) := by rw [hX2]; exact one_cells _ _
  have HS1 : Hid (∀ W, Below w.heap.size w W → ∀ j v, X1[j]? = some v → W.cell? (Addr.add ⟨p, f, none⟩ j) = some v) := by
    intro W hW
    rw [hX1]
    exact whole_cells HP hW f k
  have HS2 : Hid (∀ W, Below w.heap.size w W → ∀ j v, X2[j]? = some v → W.cell? (Addr.add ⟨p, 0, none⟩ j) = some v) := by
    intro W hW
    rw [hX2]
    exact whole_cells HP hW 0 (m - k)
  have HK := Lib.hid hk
  obtain ⟨q, hq⟩ : ∃ q, qs.length = q := ⟨_, rfl⟩
  rw [hq] at h2 hlen hmq hm
  have hk1 : k ≤ m := by omega
  have hfM : (f : Int) ≤ (M : Int) := by omega
  have hkm : (k : Int) ≤ (m : Int) := by omega
  have hq0 : ¬ (q : Int) < 0 := by omega
  have HHM := Lib.hid hm
  have HMF : Hid ((M = 0 ∧ f = 0) ∨ ¬ M = f) := by
    rcases Nat.eq_zero_or_pos M with h | h
    · exact .inl ⟨h, by omega⟩
    · exact .inr (by have := hf2 h; omega)
  have HMM := Lib.hid (show m ≤ M by omega)
  clear h HH HP hk hq hX1 hX2 hpll hm hf1 hf2 hM
  rcases HMF.out with ⟨hM0, hf0⟩ | hne1
  · subst hM0
    subst hf0
    obtain rfl : m = 0 := by have := HMM.out; omega
    obtain rfl : k = 0 := by omega
    obtain rfl : q = 0 := by omega
    have hmk1 := fun W => hmk.out 0 W rfl
    by_cases hn : n < 0
    · clear HHM
      go_enter Try.func117, Try.ntmps117
      go_wp2
      obtain ⟨w1, hw1⟩ : ∃ w1, w.alloc (.cells #[] 5) = w1 := ⟨_, rfl⟩
      have HX1 : Hid (w1.heap[w.heap.size]? = some (.cells (List.replicate 0 (Value.int .u8 0)).toArray 5 (0, 0))) := by
        rw [← hw1]
        have h := heap_alloc_new w (.cells #[] 5)
        refine Eq.trans h ?_
        simp
      have HB1 : Hid (Below w.heap.size w w1) := by rw [← hw1]; exact (Below.refl _ _).alloc (Nat.le_refl _) _
      have c0 : w1.cell? ⟨g, 0, none⟩ = some (.slice (some ⟨p, 0, none⟩) 0 0) := (HB1.out.cell hgl).trans h0
      have c1 : w1.cell? ⟨g, 1, none⟩ = some (.int .i64 0) := (HB1.out.cell hgl).trans h1
      rw [hw1]
      clear hw1 hmk1
      go_region_law (first
        | (refine step_copy_at rfl (.tmp 15) (.tmp 24) 22 22 rfl 5 Try.underlying22 (by kernel_rfl) (some ⟨w.heap.size, 0, none⟩) (some ⟨p, 0, none⟩) 0 0 0 0 rfl rfl w.heap.size 0 (List.replicate 0 (Value.int .u8 0)) 5 HX1.out X1 0 HL1.out (by have := HK.out; show 0 = min 0 0; omega) (fun _ => ⟨rfl, _, rfl, HS1.out _ HB1.out.drew⟩) (by rw [List.length_replicate]; omega) H1.out ?_
           intro w4 HG4 hO4
           have HB4 : Hid (Below w.heap.size w w4) := HB1.out.drew.trans (hO4.below (by show w.heap.size ≤ w1.heap.size; exact HB1.out.size) (fun i hi e => by omega))
           have c40 : w4.cell? ⟨g, 0, none⟩ = some (.slice (some ⟨p, 0, none⟩) 0 0) := (HB4.out.cell hgl).trans h0
           clear hO4))
      all_goals
        go_wp2
        go_region_law (first
          | (refine step_copy_at rfl (.tmp 28) (.tmp 32) 22 22 rfl 5 Try.underlying22 (by kernel_rfl) (some ⟨w.heap.size, 0, none⟩) (some ⟨p, 0, none⟩) 0 0 0 0 rfl rfl w.heap.size 0 (splice (List.replicate 0 (Value.int .u8 0)) 0 X1) 5 HG4.out X2 0 ((HL2.out).trans (by omega)) (by have := HMM.out; show 0 = min 0 0; omega) (fun h => absurd h (by omega)) (by rw [length_splice _ _ _ (by rw [HL1.out, List.length_replicate]; omega), List.length_replicate]; omega) H2.out ?_
             intro w5 HG5 hO5
             have HB5 : Hid (Below w.heap.size w w5) := HB4.out.drew.trans (hO5.below (by show w.heap.size ≤ w4.heap.size; exact HB4.out.size) (fun i hi e => by omega))
             clear hO5))
        all_goals
          go_wp2
          go_ret
          exact HE.out w5 HB5.out HG5.out
    · by_cases hn2 : n = 0
      · subst hn2
        clear HHM
        go_enter Try.func117, Try.ntmps117
        go_wp2
        obtain ⟨w1, hw1⟩ : ∃ w1, w.alloc (.cells #[] 5) = w1 := ⟨_, rfl⟩
        have HX1 : Hid (w1.heap[w.heap.size]? = some (.cells (List.replicate 0 (Value.int .u8 0)).toArray 5 (0, 0))) := by
          rw [← hw1]
          have h := heap_alloc_new w (.cells #[] 5)
          refine Eq.trans h ?_
          simp
        have HB1 : Hid (Below w.heap.size w w1) := by rw [← hw1]; exact (Below.refl _ _).alloc (Nat.le_refl _) _
        have c0 : w1.cell? ⟨g, 0, none⟩ = some (.slice (some ⟨p, 0, none⟩) 0 0) := (HB1.out.cell hgl).trans h0
        have c1 : w1.cell? ⟨g, 1, none⟩ = some (.int .i64 0) := (HB1.out.cell hgl).trans h1
        rw [hw1]
        clear hw1 hmk1
        go_region_law (first
          | (refine step_copy_at rfl (.tmp 15) (.tmp 24) 22 22 rfl 5 Try.underlying22 (by kernel_rfl) (some ⟨w.heap.size, 0, none⟩) (some ⟨p, 0, none⟩) 0 0 0 0 rfl rfl w.heap.size 0 (List.replicate 0 (Value.int .u8 0)) 5 HX1.out X1 0 HL1.out (by have := HK.out; show 0 = min 0 0; omega) (fun _ => ⟨rfl, _, rfl, HS1.out _ HB1.out.drew⟩) (by rw [List.length_replicate]; omega) H1.out ?_
             intro w4 HG4 hO4
             have HB4 : Hid (Below w.heap.size w w4) := HB1.out.drew.trans (hO4.below (by show w.heap.size ≤ w1.heap.size; exact HB1.out.size) (fun i hi e => by omega))
             have c40 : w4.cell? ⟨g, 0, none⟩ = some (.slice (some ⟨p, 0, none⟩) 0 0) := (HB4.out.cell hgl).trans h0
             clear hO4))
        all_goals
          go_wp2
          go_region_law (first
            | (refine step_copy_at rfl (.tmp 28) (.tmp 32) 22 22 rfl 5 Try.underlying22 (by kernel_rfl) (some ⟨w.heap.size, 0, none⟩) (some ⟨p, 0, none⟩) 0 0 0 0 rfl rfl w.heap.size 0 (splice (List.replicate 0 (Value.int .u8 0)) 0 X1) 5 HG4.out X2 0 ((HL2.out).trans (by omega)) (by have := HMM.out; show 0 = min 0 0; omega) (fun h => absurd h (by omega)) (by rw [length_splice _ _ _ (by rw [HL1.out, List.length_replicate]; omega), List.length_replicate]; omega) H2.out ?_
               intro w5 HG5 hO5
               have HB5 : Hid (Below w.heap.size w w5) := HB4.out.drew.trans (hO5.below (by show w.heap.size ≤ w4.heap.size; exact HB4.out.size) (fun i hi e => by omega))
               clear hO5))
          all_goals
            go_wp2
            go_ret
            exact HE.out w5 HB5.out HG5.out
      · have hn3 : (0 : Int) < n := by omega
        clear HHM
        go_enter Try.func117, Try.ntmps117
        go_wp2
        obtain ⟨w1, hw1⟩ : ∃ w1, w.alloc (.cells #[] 5) = w1 := ⟨_, rfl⟩
        have HX1 : Hid (w1.heap[w.heap.size]? = some (.cells (List.replicate 0 (Value.int .u8 0)).toArray 5 (0, 0))) := by
          rw [← hw1]
          have h := heap_alloc_new w (.cells #[] 5)
          refine Eq.trans h ?_
          simp
        have HB1 : Hid (Below w.heap.size w w1) := by rw [← hw1]; exact (Below.refl _ _).alloc (Nat.le_refl _) _
        have c0 : w1.cell? ⟨g, 0, none⟩ = some (.slice (some ⟨p, 0, none⟩) 0 0) := (HB1.out.cell hgl).trans h0
        have c1 : w1.cell? ⟨g, 1, none⟩ = some (.int .i64 0) := (HB1.out.cell hgl).trans h1
        rw [hw1]
        clear hw1 hmk1
        go_region_law (first
          | (refine step_copy_at rfl (.tmp 15) (.tmp 24) 22 22 rfl 5 Try.underlying22 (by kernel_rfl) (some ⟨w.heap.size, 0, none⟩) (some ⟨p, 0, none⟩) 0 0 0 0 rfl rfl w.heap.size 0 (List.replicate 0 (Value.int .u8 0)) 5 HX1.out X1 0 HL1.out (by have := HK.out; show 0 = min 0 0; omega) (fun _ => ⟨rfl, _, rfl, HS1.out _ HB1.out.drew⟩) (by rw [List.length_replicate]; omega) H1.out ?_
             intro w4 HG4 hO4
             have HB4 : Hid (Below w.heap.size w w4) := HB1.out.drew.trans (hO4.below (by show w.heap.size ≤ w1.heap.size; exact HB1.out.size) (fun i hi e => by omega))
             have c40 : w4.cell? ⟨g, 0, none⟩ = some (.slice (some ⟨p, 0, none⟩) 0 0) := (HB4.out.cell hgl).trans h0
             clear hO4))
        all_goals
          go_wp2
          go_region_law (first
            | (refine step_copy_at rfl (.tmp 28) (.tmp 32) 22 22 rfl 5 Try.underlying22 (by kernel_rfl) (some ⟨w.heap.size, 0, none⟩) (some ⟨p, 0, none⟩) 0 0 0 0 rfl rfl w.heap.size 0 (splice (List.replicate 0 (Value.int .u8 0)) 0 X1) 5 HG4.out X2 0 ((HL2.out).trans (by omega)) (by have := HMM.out; show 0 = min 0 0; omega) (fun h => absurd h (by omega)) (by rw [length_splice _ _ _ (by rw [HL1.out, List.length_replicate]; omega), List.length_replicate]; omega) H2.out ?_
               intro w5 HG5 hO5
               have HB5 : Hid (Below w.heap.size w w5) := HB4.out.drew.trans (hO5.below (by show w.heap.size ≤ w4.heap.size; exact HB4.out.size) (fun i hi e => by omega))
               clear hO5))
          all_goals
            go_wp2
            go_ret
            exact HE.out w5 HB5.out HG5.out
  · rcases HHM.out with ⟨hn, hm0⟩ | ⟨hn, hnm, hle⟩ | ⟨hn, hmq2⟩
    · subst hm0
      obtain rfl : k = 0 := by omega
      have hmk1 := fun W => hmk.out 0 W rfl
      clear HHM
      go_enter Try.func117, Try.ntmps117
      go_wp2
      obtain ⟨w1, hw1⟩ : ∃ w1, w.alloc (.cells #[] 5) = w1 := ⟨_, rfl⟩
      have HX1 : Hid (w1.heap[w.heap.size]? = some (.cells (List.replicate 0 (Value.int .u8 0)).toArray 5 (0, 0))) := by
        rw [← hw1]
        have h := heap_alloc_new w (.cells #[] 5)
        refine Eq.trans h ?_
        simp
      have HB1 : Hid (Below w.heap.size w w1) := by rw [← hw1]; exact (Below.refl _ _).alloc (Nat.le_refl _) _
      have c0 : w1.cell? ⟨g, 0, none⟩ = some (.slice (some ⟨p, 0, none⟩) M M) := (HB1.out.cell hgl).trans h0
      have c1 : w1.cell? ⟨g, 1, none⟩ = some (.int .i64 (f : Int)) := (HB1.out.cell hgl).trans h1
      rw [hw1]
      clear hw1 hmk1
      go_region_law (first
        | (refine step_copy_at rfl (.tmp 15) (.tmp 24) 22 22 rfl 5 Try.underlying22 (by kernel_rfl) (some ⟨w.heap.size, 0, none⟩) (some ⟨p, f, none⟩) 0 0 (M - f) (M - f) rfl rfl w.heap.size 0 (List.replicate 0 (Value.int .u8 0)) 5 HX1.out X1 0 HL1.out (by have := HK.out; show 0 = min (M - f) 0; omega) (fun _ => ⟨rfl, _, rfl, HS1.out _ HB1.out.drew⟩) (by rw [List.length_replicate]; omega) H1.out ?_
           intro w4 HG4 hO4
           have HB4 : Hid (Below w.heap.size w w4) := HB1.out.drew.trans (hO4.below (by show w.heap.size ≤ w1.heap.size; exact HB1.out.size) (fun i hi e => by omega))
           have c40 : w4.cell? ⟨g, 0, none⟩ = some (.slice (some ⟨p, 0, none⟩) M M) := (HB4.out.cell hgl).trans h0
           clear hO4))
      all_goals
        go_wp2
        go_region_law (first
          | (refine step_copy_at rfl (.tmp 28) (.tmp 32) 22 22 rfl 5 Try.underlying22 (by kernel_rfl) (some ⟨w.heap.size, 0, none⟩) (some ⟨p, 0, none⟩) 0 0 M M rfl rfl w.heap.size 0 (splice (List.replicate 0 (Value.int .u8 0)) 0 X1) 5 HG4.out X2 0 ((HL2.out).trans (by omega)) (by have := HMM.out; show 0 = min M 0; omega) (fun h => absurd h (by omega)) (by rw [length_splice _ _ _ (by rw [HL1.out, List.length_replicate]; omega), List.length_replicate]; omega) H2.out ?_
             intro w5 HG5 hO5
             have HB5 : Hid (Below w.heap.size w w5) := HB4.out.drew.trans (hO5.below (by show w.heap.size ≤ w4.heap.size; exact HB4.out.size) (fun i hi e => by omega))
             clear hO5))
        all_goals
          go_wp2
          go_ret
          exact HE.out w5 HB5.out HG5.out
    · subst hnm
      have hmk1 := fun W => hmk.out (m : Int) W rfl
      have hn2 : ¬ (m : Int) < 0 := by omega
      have hn3 : ¬ q < m := by omega
      clear HHM
      go_enter Try.func117, Try.ntmps117
      go_wp2
      obtain ⟨w1, hw1⟩ : ∃ w1, w.alloc (.cells (Array.replicate m (Value.int .u8 0)) 5) = w1 := ⟨_, rfl⟩
      have HX1 : Hid (w1.heap[w.heap.size]? = some (.cells (List.replicate m (Value.int .u8 0)).toArray 5 (0, 0))) := by
        rw [← hw1]
        have h := heap_alloc_new w (.cells (Array.replicate m (Value.int .u8 0)) 5)
        refine Eq.trans h ?_
        simp
      have HB1 : Hid (Below w.heap.size w w1) := by rw [← hw1]; exact (Below.refl _ _).alloc (Nat.le_refl _) _
      have c0 : w1.cell? ⟨g, 0, none⟩ = some (.slice (some ⟨p, 0, none⟩) M M) := (HB1.out.cell hgl).trans h0
      have c1 : w1.cell? ⟨g, 1, none⟩ = some (.int .i64 (f : Int)) := (HB1.out.cell hgl).trans h1
      rw [hw1]
      clear hw1 hmk1
      go_region_law (first
        | (refine step_copy_at rfl (.tmp 15) (.tmp 24) 22 22 rfl 5 Try.underlying22 (by kernel_rfl) (some ⟨w.heap.size, 0, none⟩) (some ⟨p, f, none⟩) m m (M - f) (M - f) rfl rfl w.heap.size 0 (List.replicate m (Value.int .u8 0)) 5 HX1.out X1 k HL1.out (by have := HK.out; show k = min (M - f) m; omega) (fun _ => ⟨rfl, _, rfl, HS1.out _ HB1.out.drew⟩) (by rw [List.length_replicate]; omega) H1.out ?_
           intro w4 HG4 hO4
           have HB4 : Hid (Below w.heap.size w w4) := HB1.out.drew.trans (hO4.below (by show w.heap.size ≤ w1.heap.size; exact HB1.out.size) (fun i hi e => by omega))
           have c40 : w4.cell? ⟨g, 0, none⟩ = some (.slice (some ⟨p, 0, none⟩) M M) := (HB4.out.cell hgl).trans h0
           clear hO4))
      all_goals
        go_wp2
        by_cases hkm2 : m = k
        · subst hkm2
          go_region_law (first
            | (refine step_copy_at rfl (.tmp 28) (.tmp 32) 22 22 rfl 5 Try.underlying22 (by kernel_rfl) (some ⟨w.heap.size, 0, none⟩) (some ⟨p, 0, none⟩) 0 0 M M rfl rfl w.heap.size m (splice (List.replicate m (Value.int .u8 0)) 0 X1) 5 HG4.out X2 0 ((HL2.out).trans (by omega)) (by have := HMM.out; show 0 = min M 0; omega) (fun h => absurd h (by omega)) (by rw [length_splice _ _ _ (by rw [HL1.out, List.length_replicate]; omega), List.length_replicate]; omega) H2.out ?_
               intro w5 HG5 hO5
               have HB5 : Hid (Below w.heap.size w w5) := HB4.out.drew.trans (hO5.below (by show w.heap.size ≤ w4.heap.size; exact HB4.out.size) (fun i hi e => by omega))
               clear hO5))
          all_goals
            go_wp2
            go_ret
            exact HE.out w5 HB5.out HG5.out
        · go_region_law (first
            | (refine step_copy_at rfl (.tmp 28) (.tmp 32) 22 22 rfl 5 Try.underlying22 (by kernel_rfl) (some ⟨w.heap.size, k, none⟩) (some ⟨p, 0, none⟩) (m - k) (m - k) M M rfl rfl w.heap.size k (splice (List.replicate m (Value.int .u8 0)) 0 X1) 5 HG4.out X2 (m - k) ((HL2.out).trans (by omega)) (by have := HMM.out; show (m - k) = min M (m - k); omega) (fun _ => ⟨rfl, _, rfl, HS2.out _ HB4.out.drew⟩) (by rw [length_splice _ _ _ (by rw [HL1.out, List.length_replicate]; omega), List.length_replicate]; omega) H2.out ?_
               intro w5 HG5 hO5
               have HB5 : Hid (Below w.heap.size w w5) := HB4.out.drew.trans (hO5.below (by show w.heap.size ≤ w4.heap.size; exact HB4.out.size) (fun i hi e => by omega))
               clear hO5))
          all_goals
            go_wp2
            go_ret
            exact HE.out w5 HB5.out HG5.out
    · subst hmq2
      have hmk1 := fun W => hmk.out (m : Int) W rfl
      have hn2 : ¬ n < 0 := by omega
      clear HHM
      go_enter Try.func117, Try.ntmps117
      go_wp2
      obtain ⟨w1, hw1⟩ : ∃ w1, w.alloc (.cells (Array.replicate m (Value.int .u8 0)) 5) = w1 := ⟨_, rfl⟩
      have HX1 : Hid (w1.heap[w.heap.size]? = some (.cells (List.replicate m (Value.int .u8 0)).toArray 5 (0, 0))) := by
        rw [← hw1]
        have h := heap_alloc_new w (.cells (Array.replicate m (Value.int .u8 0)) 5)
        refine Eq.trans h ?_
        simp
      have HB1 : Hid (Below w.heap.size w w1) := by rw [← hw1]; exact (Below.refl _ _).alloc (Nat.le_refl _) _
      have c0 : w1.cell? ⟨g, 0, none⟩ = some (.slice (some ⟨p, 0, none⟩) M M) := (HB1.out.cell hgl).trans h0
      have c1 : w1.cell? ⟨g, 1, none⟩ = some (.int .i64 (f : Int)) := (HB1.out.cell hgl).trans h1
      rw [hw1]
      clear hw1 hmk1
      go_region_law (first
        | (refine step_copy_at rfl (.tmp 15) (.tmp 24) 22 22 rfl 5 Try.underlying22 (by kernel_rfl) (some ⟨w.heap.size, 0, none⟩) (some ⟨p, f, none⟩) m m (M - f) (M - f) rfl rfl w.heap.size 0 (List.replicate m (Value.int .u8 0)) 5 HX1.out X1 k HL1.out (by have := HK.out; show k = min (M - f) m; omega) (fun _ => ⟨rfl, _, rfl, HS1.out _ HB1.out.drew⟩) (by rw [List.length_replicate]; omega) H1.out ?_
           intro w4 HG4 hO4
           have HB4 : Hid (Below w.heap.size w w4) := HB1.out.drew.trans (hO4.below (by show w.heap.size ≤ w1.heap.size; exact HB1.out.size) (fun i hi e => by omega))
           have c40 : w4.cell? ⟨g, 0, none⟩ = some (.slice (some ⟨p, 0, none⟩) M M) := (HB4.out.cell hgl).trans h0
           clear hO4))
      all_goals
        go_wp2
        by_cases hkm2 : m = k
        · subst hkm2
          go_region_law (first
            | (refine step_copy_at rfl (.tmp 28) (.tmp 32) 22 22 rfl 5 Try.underlying22 (by kernel_rfl) (some ⟨w.heap.size, 0, none⟩) (some ⟨p, 0, none⟩) 0 0 M M rfl rfl w.heap.size m (splice (List.replicate m (Value.int .u8 0)) 0 X1) 5 HG4.out X2 0 ((HL2.out).trans (by omega)) (by have := HMM.out; show 0 = min M 0; omega) (fun h => absurd h (by omega)) (by rw [length_splice _ _ _ (by rw [HL1.out, List.length_replicate]; omega), List.length_replicate]; omega) H2.out ?_
               intro w5 HG5 hO5
               have HB5 : Hid (Below w.heap.size w w5) := HB4.out.drew.trans (hO5.below (by show w.heap.size ≤ w4.heap.size; exact HB4.out.size) (fun i hi e => by omega))
               clear hO5))
          all_goals
            go_wp2
            go_ret
            exact HE.out w5 HB5.out HG5.out
        · go_region_law (first
            | (refine step_copy_at rfl (.tmp 28) (.tmp 32) 22 22 rfl 5 Try.underlying22 (by kernel_rfl) (some ⟨w.heap.size, k, none⟩) (some ⟨p, 0, none⟩) (m - k) (m - k) M M rfl rfl w.heap.size k (splice (List.replicate m (Value.int .u8 0)) 0 X1) 5 HG4.out X2 (m - k) ((HL2.out).trans (by omega)) (by have := HMM.out; show (m - k) = min M (m - k); omega) (fun _ => ⟨rfl, _, rfl, HS2.out _ HB4.out.drew⟩) (by rw [length_splice _ _ _ (by rw [HL1.out, List.length_replicate]; omega), List.length_replicate]; omega) H2.out ?_
               intro w5 HG5 hO5
               have HB5 : Hid (Below w.heap.size w w5) := HB4.out.drew.trans (hO5.below (by show w.heap.size ≤ w4.heap.size; exact HB4.out.size) (fun i hi e => by omega))
               clear hO5))
          all_goals
            go_wp2
            go_ret
            exact HE.out w5 HB5.out HG5.out

end

/-- As many of q as n asks for. -/
def Cnt (n : Int) (q m : Nat) : Prop := (n < 0 ∧ m = 0) ∨ (0 ≤ n ∧ n = (m : Int) ∧ m ≤ q) ∨ ((q : Int) < n ∧ m = q)
theorem cnt_some (n : Int) (q : Nat) : ∃ m, Cnt n q m := by
  by_cases h : n < 0
  · exact ⟨0, .inl ⟨h, rfl⟩⟩
  · by_cases h2 : n ≤ (q : Int)
    · exact ⟨n.toNat, .inr (.inl ⟨by omega, by omega, by omega⟩)⟩
    · exact ⟨q, .inr (.inr ⟨by omega, rfl⟩)⟩
theorem Cnt.le {n : Int} {q m : Nat} (h : Cnt n q m) : m ≤ q := by unfold Cnt at h; omega

section
variable {T : TypeId} {X : List Value} (w : World) (g p M f : Nat) (qs : List Int)

theorem look_any (n : Int) (m : Nat) (h : QAt T X w g p M f qs) (hm : Cnt n qs.length m) :
    Calls Try.prog 117 #[.pointer (some ⟨g, 0, none⟩), .int .i64 n] w (Looked qs m w) := look_core w g p M f qs n m h hm

/-- How many of n bytes are put where there is room for R. -/
theorem put_any (A : Option Addr) (n c : Nat) (zs : List Int) (m : Nat) (h : QAt T X w g p M f qs) (hr : RowOff w (GP g p) A n zs) (hn : n ≤ 100000) (hc : n ≤ c) (hm : m = min n (M - qs.length)) :
    Calls Try.prog 72 #[.pointer (some ⟨g, 0, none⟩), .slice A n c] w (QPut w g p M f qs T X m zs) := by
  have hl := h.len
  rcases Nat.eq_zero_or_pos m with h0 | h0
  · subst h0
    exact put_none w g p M f qs A n c zs (M - qs.length) h hn (by omega) (by omega)
  · obtain ⟨b, off, rfl, _⟩ := hr.2 (by omega)
    exact put_some w g p M f qs b off n c zs m (M - qs.length) h hr hn hc (by omega) (by omega) h0

/-- What Take leaves. -/
def QTake (T : TypeId) (X : List Value) (m : Nat) (e : Ending) (w' : World) : Prop := ∃ b, e = .returned (.slice (some ⟨b, 0, none⟩) m m) ∧ w.heap.size ≤ b ∧ Whole .u8 w' b 5 (qs.take m) ∧ QAt T X w' g p M (plc M f m) (qs.drop m) ∧ Off (GP g p) w w'
/-- The same of a queue alone. -/
abbrev Taken (m : Nat) (e : Ending) (w' : World) : Prop := QTake w g p M f qs 118 [] m e w'

theorem taken_end (h : QAt T X w g p M f qs) (m : Nat) (hm : m ≤ qs.length) (b d : Nat) (w1 : World) (hb : w.heap.size ≤ b) (hW : Whole .u8 w1 b 5 (qs.take m)) (hB : Below w.heap.size w w1) :
    QTake w g p M f qs T X m (.returned (.slice (some ⟨b, 0, none⟩) m m)) (((w1.drewN d).setCell ⟨g, 1, none⟩ (.int .i64 (plc M f m : Int))).setCell ⟨g, 2, none⟩ (.int .i64 ((qs.length : Int) - (m : Int)))) := by
  have hg := h.lt.1
  have h1 : QAt T X (w1.drewN d) g p M f qs := (h.below hB).drewN d
  obtain ⟨pl, HP, HH⟩ := h1.holds
  have ho : Off (GP g p) w (w1.drewN d) := (Off.of_below hB).drewN d
  refine ⟨b, rfl, hb, ?_, ⟨h.ne, h.most, ?_, pl, ?_, holds_take HH m hm⟩, (ho.setCell (p := ⟨g, 1, none⟩) (.inl (.inl rfl)) _).setCell (p := ⟨g, 2, none⟩) (.inl (.inl rfl)) _⟩
  · exact (Below.heap_setCell _ _ _ _ (show b ≠ g by omega)).trans ((Below.heap_setCell _ _ _ _ (show b ≠ g by omega)).trans hW)
  · have hs := (h1.head.set 1 (.int .i64 (plc M f m : Int))).set 2 (.int .i64 ((qs.length : Int) - (m : Int)))
    rw [List.length_drop, show ((qs.length - m : Nat) : Int) = (qs.length : Int) - (m : Int) by omega]
    exact hs
  · exact (Below.heap_setCell _ _ _ _ (Ne.symm h.ne)).trans ((Below.heap_setCell _ _ _ _ (Ne.symm h.ne)).trans HP)

set_option maxRecDepth 100000 in
set_option maxHeartbeats 1000000 in
theorem take_any (n : Int) (m : Nat) (h : QAt T X w g p M f qs) (hm : Cnt n qs.length m) :
    Calls Try.prog 75 #[.pointer (some ⟨g, 0, none⟩), .int .i64 n] w (QTake w g p M f qs T X m) := by
  have hmq := hm.le
  have hlen := h.len
  have hmost := h.most
  have CL := Lib.hid (look_any w g p M f qs n m h hm)
  have CP := Lib.hid (fun w1 (hb : Below w.heap.size w w1) => place_any w1 g p M f qs m (h.below hb) (by omega))
  have HE := Lib.hid (taken_end w g p M f qs h m hmq)
  have h2 := h.head.cell 2
  simp only [List.getElem?_cons_succ, List.getElem?_cons_zero] at h2
  have hgl := h.lt.1
  have HH := Lib.hid h.head
  obtain ⟨q, hq⟩ : ∃ q, qs.length = q := ⟨_, rfl⟩
  rw [hq] at HE h2 HH hmq hlen
  obtain ⟨P, hP⟩ : ∃ P, plc M f m = P := ⟨_, rfl⟩
  rw [hP] at HE CP
  clear h hm hq hP
  go_enter Try.func75, Try.ntmps75
  go_wp2_with (first
    | (go_at_call 117
       (with_reducible refine CL.out.mono ?_)
       rintro e w1 ⟨b, rfl, hb, hW, hB⟩
       have HE1 := Lib.hid (fun d => HE.out b d w1 hb hW hB)
       have CP1 := Lib.hid (CP.out w1 hB)
       have HW1 : WholeV w1 g T (.slice (some ⟨p, 0, none⟩) M M :: .int .i64 (f : Int) :: .int .i64 (q : Int) :: X) := HH.out.below hB hgl
       have c1 := HW1.cell 1
       have c2 := HW1.cell 2
       simp only [List.getElem?_cons_succ, List.getElem?_cons_zero] at c1 c2
       have f1 := HW1.frozen 1
       have f2 := HW1.frozen 2
       clear hb hW hB HW1)
    | (go_at_call 115; (with_reducible refine CP1.out.mono ?_); rintro e w2 ⟨rfl, d2, rfl⟩))
  go_ret
  exact HE1.out d2

end

theorem below_gp {B0 : Nat} {w0 w w' : World} {g p : Nat} (hb : Below B0 w0 w) (hB : B0 ≤ w.heap.size) (ho : Off (GP g p) w w') (hg : B0 ≤ g) (hp : B0 ≤ p) : Below B0 w0 w' :=
  hb.trans (ho.below hB (fun k hk h => by rcases h with h | h <;> omega))

/-- Bytes that were built. -/
theorem built_off (W : World) (S : Nat → Prop) (zs : List Int) (hS : ¬ S W.heap.size) : RowOff (W.alloc (.cells (zs.map (Value.int .u8)).toArray 5)) S (some ⟨W.heap.size, 0, none⟩) zs.length zs := by
  have h : Whole .u8 (W.alloc (.cells (zs.map (Value.int .u8)).toArray 5)) W.heap.size 5 (zs ++ []) := by rw [List.append_nil]; exact heap_alloc_new W _
  exact RowOff.of_whole h rfl hS

/-- So many bytes, from a number on. -/
def someL (fr : Int) (n : Nat) : List Int := (List.range n).map fun (i : Nat) => (fr + (i : Int)) % 256
theorem someL_length (fr : Int) (n : Nat) : (someL fr n).length = n := by simp [someL]
theorem someL_succ (fr : Int) (n : Nat) : someL fr (n + 1) = someL fr n ++ [(fr + (n : Int)) % 256] := by simp [someL, List.range_succ]

/-- What some leaves. -/
def SomeRow (fr : Int) (n : Nat) (w : World) (e : Ending) (w' : World) : Prop := ∃ A c, e = .returned (.slice A n c) ∧ w'.ownsRow w.heap.size 5 1 (.slice A n c) n ((someL fr n).map (Value.int .u8)) ∧ Below w.heap.size w w'

/-- A row that was made behind a queue. -/
theorem own_gp {w w' : World} {g p n c : Nat} {A : Option Addr} {zs : List Int} (hlt : g < w.heap.size ∧ p < w.heap.size) (h : w'.ownsRow w.heap.size 5 1 (.slice A n c) n (zs.map (Value.int .u8))) : RowOff w' (GP g p) A n zs := by
  have hl : zs.length = n := by have := h.1; rw [List.length_map] at this; omega
  refine ⟨hl, fun h0 => ?_⟩
  obtain ⟨b, cap, he, hb, hr⟩ := row_of_own h h0
  injection he with he
  subst he
  have hr2 := RowV.ints (k := .u8) hr
  obtain ⟨b', off, e, hlt2, hc⟩ := hr2.2 h0
  injection e with e
  injection e with e1 e2
  subst e1 e2
  exact ⟨b, 0, rfl, hlt2, by unfold GP; omega, hc⟩
theorem own_capI {w : World} {base n c : Nat} {A : Option Addr} {xs : List Value} (h : w.ownsRow base 5 1 (.slice A n c) n xs) : n ≤ c := by
  rcases h.2 with ⟨e, h0⟩ | ⟨g, cap, cur, e, _, _, hnc, _⟩
  · omega
  · injection e with _ _ e
    omega

/-- A row, from its place I on, n bytes: as a slice of it is. -/
theorem row_part {w W : World} {g p n I m : Nat} {A : Option Addr} {bs : List Int} (h : Row .u8 w w.heap.size A n bs) (hb : Below w.heap.size w W) (hg : w.heap.size ≤ g) (hp : w.heap.size ≤ p) (hm : I + m ≤ n) (b off : Nat) (hA : A = some ⟨b, off, none⟩) :
    RowOff W (GP g p) (some ⟨b, off + I, none⟩) m ((bs.drop I).take m) := by
  have hl := h.1
  refine ⟨by rw [List.length_take, List.length_drop]; omega, fun h0 => ?_⟩
  obtain ⟨b', off', e, hlt, hc⟩ := h.2 (by omega)
  rw [hA] at e
  injection e with e
  injection e with e1 e2
  subst e1 e2
  refine ⟨b, off + I, rfl, Nat.lt_of_lt_of_le hlt hb.size, by unfold GP; omega, fun j hj => ?_⟩
  rw [hb.cell (p := ⟨b, off + I + j, none⟩) hlt, Nat.add_assoc, hc (I + j) (by omega)]
  simp [List.getD_eq_getElem?_getD, List.getElem?_take, hj, List.getElem?_drop]

theorem rowoff_nil (w : World) (S : Nat → Prop) (A : Option Addr) : RowOff w S A 0 [] := ⟨rfl, fun h => absurd h (by omega)⟩

theorem digit_by (k d n : Int) (z : Nat) (w : World) (hz : (k.tdiv d) % n = (z : Int)) (h0 : -9223372036854775808 ≤ k) (h1 : k ≤ 9223372036854775807) (hd : 1 < d) (hd1 : d ≤ 4611686018427387903) (hn : 0 < n) (hn1 : n ≤ 4611686018427387903) :
    Calls Try.prog 28 #[.int .i64 k, .int .i64 d, .int .i64 n] w fun e w' => e = .returned (.int .i64 (z : Int)) ∧ w = w' := by
  have hb : -9223372036854775808 ≤ k.tdiv d ∧ k.tdiv d ≤ 9223372036854775807 := by
    rcases Int.le_total 0 k with h | h
    · rw [Int.tdiv_eq_ediv_of_nonneg h]
      have := Int.ediv_le_self d h
      have := Int.ediv_nonneg h (show 0 ≤ d by omega)
      omega
    · have e : k.tdiv d = - ((-k) / d) := by
        have := Int.neg_tdiv (-k) d
        rw [Int.neg_neg] at this
        rw [this, Int.tdiv_eq_ediv_of_nonneg (show 0 ≤ -k by omega)]
      have := Int.ediv_le_self d (show 0 ≤ -k by omega)
      have := Int.ediv_nonneg (show 0 ≤ -k by omega) (show 0 ≤ d by omega)
      omega
  obtain ⟨q, hq⟩ : ∃ q, k.tdiv d = q := ⟨_, rfl⟩
  rw [hq] at hb hz
  have b0 := hb.1
  have b1 := hb.2
  have hd0 : d ≠ 0 := by omega
  have hd2 : d ≠ -1 := by omega
  have C := Lib.hid (fun W => within_any q n W b0 b1 hn hn1)
  rw [hz] at C
  clear hb hz
  go_enter Try.func28, Try.ntmps28
  go_wp2_with (go_at_call 11; refine (C.out _).mono ?_; rintro e w' ⟨rfl, rfl⟩)
  go_ret
  exact ⟨rfl, rfl⟩

/-- What stands at a round's head of RingOrder. -/
def OrdInv (w w2 : World) (g p M : Nat) (bs : List Int) (wr : World) (A : Option Addr) (O c I : Nat) : Prop :=
  ∃ f qs ol, RingAt wr g p M f qs ∧ wr.ownsRow w2.heap.size 5 1 (.slice A O c) O (ol.map (Value.int .u8)) ∧ ol ++ qs = bs.take I ∧ Below w.heap.size w wr ∧ w2.heap.size ≤ wr.heap.size

theorem OrdInv.put {w w2 wr w5 : World} {g p M I t m : Nat} {bs : List Int} {A : Option Addr} {O c f : Nat} {qs ol : List Int} {e : Ending} (hlt : g < w2.heap.size ∧ p < w2.heap.size) (hgp : w.heap.size ≤ g ∧ w.heap.size ≤ p)
    (hown : wr.ownsRow w2.heap.size 5 1 (.slice A O c) O (ol.map (Value.int .u8))) (hcat : ol ++ qs = bs.take I) (hb : Below w.heap.size w wr) (hsz : w2.heap.size ≤ wr.heap.size) (hm : m ≤ t)
    (hp : Putten wr g p M f qs m ((bs.drop I).take t) e w5) : OrdInv w w2 g p M bs w5 A O c (I + m) := by
  obtain ⟨_, hr, ho⟩ := hp
  refine ⟨f, _, ol, hr, ho.own hown (fun k hk _ hs => by rcases hs with hs | hs <;> omega), ?_, below_gp hb hb.size ho hgp.1 hgp.2, Nat.le_trans hsz ho.size⟩
  rw [← List.append_assoc, hcat, List.take_take, Nat.min_eq_left hm, List.take_add]

theorem OrdInv.taken {w w2 w6 w7 : World} {g p M I mt : Nat} {bs : List Int} {A7 : Option Addr} {O c7 f : Nat} {qs ol : List Int} {v : Value} (hlt : g < w2.heap.size ∧ p < w2.heap.size) (hw2 : w.heap.size ≤ w2.heap.size)
    (hr : RingAt w6 g p M f (qs.drop mt)) (hb : Below w.heap.size w w6) (hsz : w2.heap.size ≤ w6.heap.size) (hcat : ol ++ qs = bs.take I)
    (hown : w7.ownsRow w2.heap.size 5 1 (.slice A7 (O + mt) c7) (O + mt) (ol.map (Value.int .u8) ++ (qs.take mt).map (Value.int .u8))) (hg : w6.grownBy w7 v.ownBlock) (hge : ∀ k, v.ownBlock = some k → w2.heap.size ≤ k) :
    OrdInv w w2 g p M bs w7 A7 (O + mt) c7 I := by
  have ho : Off (fun k => w2.heap.size ≤ k) w6 w7 := (Off.refl _ w6).grown hg (fun k hk => .inl (hge k hk))
  refine ⟨f, qs.drop mt, ol ++ qs.take mt, hr.off ho (by omega) (by omega), ?_, ?_, hb.grown hg hb.size (fun k hk => by have := hge k hk; omega), Nat.le_trans hsz ho.size⟩
  · rw [List.map_append]; exact hown
  · rw [List.append_assoc, List.take_append_drop, hcat]

theorem ord_end {w w2 w6 w7 : World} {g p M I : Nat} {bs : List Int} {A7 : Option Addr} {O c7 f : Nat} {qs ol : List Int} {v : Value} (hlt : g < w2.heap.size ∧ p < w2.heap.size) (hw2 : w.heap.size ≤ w2.heap.size)
    (hr : RingAt w6 g p M f (qs.drop qs.length)) (hb : Below w.heap.size w w6) (hcat : ol ++ qs = bs.take I)
    (hown : w7.ownsRow w2.heap.size 5 1 (.slice A7 (O + qs.length) c7) (O + qs.length) (ol.map (Value.int .u8) ++ (qs.take qs.length).map (Value.int .u8))) (hg : w6.grownBy w7 v.ownBlock) (hge : ∀ k, v.ownBlock = some k → w2.heap.size ≤ k) :
    RingAt w7 g p M f [] ∧ Row .u8 w7 w7.heap.size A7 (O + qs.length) (bs.take I) ∧ Below w.heap.size w w7 := by
  have ho : Off (fun k => w2.heap.size ≤ k) w6 w7 := (Off.refl _ w6).grown hg (fun k hk => .inl (hge k hk))
  refine ⟨?_, ?_, hb.grown hg hb.size (fun k hk => by have := hge k hk; omega)⟩
  · have := hr.off ho (by omega) (by omega)
    rwa [List.drop_length] at this
  · have h := own_row hown
    rw [List.take_length, ← List.map_append, hcat] at h
    exact h.ints

end Go.Proofs.Ythmendcdfhlkkaa

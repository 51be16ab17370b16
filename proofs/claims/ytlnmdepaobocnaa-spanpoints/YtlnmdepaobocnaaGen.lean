/- Slices as lists of values, of integers, of bools: what is read, kept, made, copied, appended. No statement is proved here. -/
import Derived.Test.YtlnmdepaobocnaaBase
import Derived.Maps.AppendAt
import Derived.Laws.BytesArg
import Derived.ShutString
import Derived.ChangeOld
import Derived.Deep.RegionHeld
import Derived.Deep.Grids
namespace Go.Proofs.Ytlnmdepaobocnaa
open Go.ChangeShapes Go.WideShapes Go.ChangeAt Go.RowKit
set_option linter.unusedVariables false

theorem own : ownKnob Try.prog.godebug = none := by kernel_rfl
theorem laidOut : laidOutB Try.prog = true := by kernel_rfl

/-- It returned v, and only draws went by. -/
def Quiet (v : Value) (w : World) (e : Ending) (w' : World) : Prop := e = .returned v ∧ ∃ d, w' = w.drewN d
theorem quiet_still {P : Program} {f : FuncId} {args : Array Value} {w : World} {n : Nat} {v : Value} (h : Calls P f args (w.drewN n) fun e w' => e = .returned v ∧ w.drewN n = w') :
    Calls P f args (w.drewN n) fun e w'' => e = .returned v ∧ ∃ m, w'' = w.drewN m := Calls.quiet_of_same (h.mono fun _ _ ⟨he, hm⟩ => ⟨he, hm.symm⟩)
theorem below_drewN {B : Nat} {a w : World} (h : Below B a w) (n : Nat) : Below B a (w.drewN n) := ⟨h.os, h.tape, h.output, h.size, h.block⟩
theorem below_from {B : Nat} {w w' : World} {d : Nat} (h : Below B (w.drewN d) w') : Below B w w' := ⟨h.os, h.tape, h.output, h.size, h.block⟩
theorem ret_bool {a b : Bool} (h : a = b) : Ending.returned (.bool a) = .returned (.bool b) := by rw [h]
theorem ret_int {k : IntKind} {a b : Int} (h : a = b) : Ending.returned (.int k a) = .returned (.int k b) := by rw [h]

/-- A slice value with address A and length n reads as the values vs, one cell each; it lies below block B. -/
def RowV (w : World) (B : Nat) (A : Option Addr) (n : Nat) (vs : List Value) : Prop :=
  vs.length = n ∧ (0 < n → ∃ b off, A = some ⟨b, off, none⟩ ∧ b < B ∧ ∀ j, j < n → w.cell? ⟨b, off + j, none⟩ = vs[j]?)
/-- The same, of bools. -/
def BRow (w : World) (B : Nat) (A : Option Addr) (n : Nat) (bs : List Bool) : Prop :=
  bs.length = n ∧ (0 < n → ∃ b off, A = some ⟨b, off, none⟩ ∧ b < B ∧ ∀ j, j < n → w.cell? ⟨b, off + j, none⟩ = some (.bool (bs.getD j false)))
/-- Block g is just the values vs, element type t, nothing of it frozen. -/
def WholeV (w : World) (g : Nat) (t : TypeId) (vs : List Value) : Prop := w.heap[g]? = some (.cells vs.toArray t (0, 0))

section
variable {k : IntKind} {w w' : World} {B B' g : Nat} {A : Option Addr} {n m : Nat} {t : TypeId} {vs us : List Value} {zs ys : List Int} {bs cs : List Bool}

theorem Row.v (h : Row k w B A n zs) : RowV w B A n (zs.map (Value.int k)) :=
  ⟨by rw [List.length_map]; exact h.1, fun h0 => by
    obtain ⟨b, off, e, hb, hc⟩ := h.2 h0
    refine ⟨b, off, e, hb, fun j hj => ?_⟩
    have hl := h.1
    rw [hc j hj]
    simp [show j < zs.length by omega]⟩
theorem RowV.ints (h : RowV w B A n (zs.map (Value.int k))) : Row k w B A n zs :=
  ⟨by have := h.1; rwa [List.length_map] at this, fun h0 => by
    obtain ⟨b, off, e, hb, hc⟩ := h.2 h0
    refine ⟨b, off, e, hb, fun j hj => ?_⟩
    have hl := h.1
    rw [List.length_map] at hl
    rw [hc j hj]
    simp [show j < zs.length by omega]⟩
theorem BRow.v (h : BRow w B A n bs) : RowV w B A n (bs.map Value.bool) :=
  ⟨by rw [List.length_map]; exact h.1, fun h0 => by
    obtain ⟨b, off, e, hb, hc⟩ := h.2 h0
    refine ⟨b, off, e, hb, fun j hj => ?_⟩
    have hl := h.1
    rw [hc j hj]
    simp [show j < bs.length by omega]⟩
theorem RowV.bools (h : RowV w B A n (bs.map Value.bool)) : BRow w B A n bs :=
  ⟨by have := h.1; rwa [List.length_map] at this, fun h0 => by
    obtain ⟨b, off, e, hb, hc⟩ := h.2 h0
    refine ⟨b, off, e, hb, fun j hj => ?_⟩
    have hl := h.1
    rw [List.length_map] at hl
    rw [hc j hj]
    simp [show j < bs.length by omega]⟩

theorem RowV.nil : RowV w B A 0 [] := ⟨rfl, fun h => absurd h (by omega)⟩
theorem RowV.keep (h : RowV w B A n vs) (hk : ∀ p : Addr, p.block < B → w'.cell? p = w.cell? p) : RowV w' B A n vs :=
  ⟨h.1, fun hn => by
    obtain ⟨b, off, e, hb, hc⟩ := h.2 hn
    exact ⟨b, off, e, hb, fun j hj => (hk _ hb).trans (hc j hj)⟩⟩
theorem RowV.below (h : RowV w B A n vs) (hb : Below B w w') : RowV w' B A n vs := h.keep fun _ hp => hb.cell hp
theorem RowV.more (h : RowV w B A n vs) (hB : B ≤ B') : RowV w B' A n vs :=
  ⟨h.1, fun hn => by
    obtain ⟨b, off, e, hb, hc⟩ := h.2 hn
    exact ⟨b, off, e, by omega, hc⟩⟩
theorem RowV.front (h : RowV w B A (n + m) (vs ++ us)) (hl : vs.length = n) : RowV w B A n vs :=
  ⟨hl, fun h0 => by
    obtain ⟨b, off, e, hb, hc⟩ := h.2 (by omega)
    refine ⟨b, off, e, hb, fun j hj => ?_⟩
    rw [hc j (by omega)]
    simp [List.getElem?_append, hl, hj]⟩
theorem RowV.src (h : RowV w B A n vs) (hn : 0 < n) : ∃ ad : Addr, A = some ad ∧ ad.block < B ∧ ∀ j v, vs[j]? = some v → w.cell? (ad.add j) = some v := by
  obtain ⟨b, off, rfl, hb, hc⟩ := h.2 hn
  refine ⟨⟨b, off, none⟩, rfl, hb, fun j v hv => ?_⟩
  have hl := h.1
  have hjn : j < n := by
    have := (List.getElem?_eq_some_iff.1 hv).1
    omega
  have := (hc j hjn).trans hv
  unfold Addr.add
  by_cases h0 : j = 0
  · subst h0; simpa using this
  · simp only [h0]; simpa using this

theorem Row.front (h : Row k w B A (n + m) (zs ++ ys)) (hl : zs.length = n) : Row k w B A n zs := by
  have := h.v
  rw [List.map_append] at this
  exact (this.front (by simpa using hl)).ints
theorem Row.drewN (h : Row k w B A n zs) (d : Nat) : Row k (w.drewN d) B A n zs := h
theorem Whole.drewN (h : Whole k w g t zs) (d : Nat) : Whole k (w.drewN d) g t zs := h
theorem Whole.frozen (h : Whole k w g t zs) (i : Nat) : w.frozen? ⟨g, i, none⟩ = false := frozen_of_row w _ _ _ _ h
theorem Whole.set_ (h : Whole k w g t zs) (i : Nat) (v : Int) : Whole k (w.setCell ⟨g, i, none⟩ (.int k v)) g t (zs.set i v) := by
  have hq := heap_set w g i _ t _ h (.int k v)
  unfold Whole
  rw [hq]
  simp [List.map_set]
theorem Row.src (h : Row k w B A n zs) (hn : 0 < n) : ∃ ad : Addr, A = some ad ∧ ad.block < B ∧ ∀ j v, (zs.map (Value.int k))[j]? = some v → w.cell? (ad.add j) = some v := h.v.src hn
theorem BRow.src (h : BRow w B A n bs) (hn : 0 < n) : ∃ ad : Addr, A = some ad ∧ ad.block < B ∧ ∀ j v, (bs.map Value.bool)[j]? = some v → w.cell? (ad.add j) = some v := h.v.src hn
theorem BRow.below (h : BRow w B A n bs) (hb : Below B w w') : BRow w' B A n bs := (h.v.below hb).bools
theorem BRow.more (h : BRow w B A n bs) (hB : B ≤ B') : BRow w B' A n bs := (h.v.more hB).bools
theorem BRow.front (h : BRow w B A (n + m) (bs ++ cs)) (hl : bs.length = n) : BRow w B A n bs := by
  have := h.v
  rw [List.map_append] at this
  exact (this.front (by simpa using hl)).bools
theorem BRow.drewN (h : BRow w B A n bs) (d : Nat) : BRow (w.drewN d) B A n bs := h
theorem BRow.nil : BRow w B A 0 [] := ⟨rfl, fun h => absurd h (by omega)⟩

theorem WholeV.lt (h : WholeV w g t vs) : g < w.heap.size := by
  rcases Nat.lt_or_ge g w.heap.size with hlt | hge
  · exact hlt
  · unfold WholeV at h; rw [Array.getElem?_eq_none hge] at h; cases h
theorem WholeV.cell (h : WholeV w g t vs) (i : Nat) : w.cell? ⟨g, i, none⟩ = vs[i]? := by
  unfold WholeV at h
  rw [cell_of_row w g i _ t (0, 0) h]
  simp
theorem WholeV.frozen (h : WholeV w g t vs) (i : Nat) : w.frozen? ⟨g, i, none⟩ = false := frozen_of_row w _ _ _ _ h
theorem WholeV.row (h : WholeV w g t vs) : RowV w w.heap.size (some ⟨g, 0, none⟩) vs.length vs :=
  ⟨rfl, fun _ => ⟨g, 0, rfl, h.lt, fun j hj => by rw [Nat.zero_add]; exact h.cell j⟩⟩
theorem WholeV.below (h : WholeV w g t vs) (hb : Below B w w') (hg : g < B) : WholeV w' g t vs := (hb.block g hg).trans h
theorem WholeV.drewN (h : WholeV w g t vs) (d : Nat) : WholeV (w.drewN d) g t vs := h
theorem WholeV.set (h : WholeV w g t vs) (i : Nat) (v : Value) : WholeV (w.setCell ⟨g, i, none⟩ v) g t (vs.set i v) := by
  have hq := heap_set w g i _ t _ h v
  unfold WholeV
  rw [hq]
  simp

end

theorem bools_oneCell (bs : List Bool) : ∀ u ∈ bs.map Value.bool, u.oneCell' = true := by
  intro u hu
  obtain ⟨b, _, rfl⟩ := List.mem_map.1 hu
  rfl

theorem splice_any (n m : Nat) (cs : List Value) (z : Value) (h : cs.length = n) : splice (List.replicate (n + m) z) 0 cs = cs ++ List.replicate m z := by
  unfold splice
  rw [h]
  simp [List.drop_replicate]

/-- Making a slice, of one cell an element. -/
theorem make_any {P : Program} (st et : TypeId) (z : Value) (bytes : Nat) (hs : P.underlying st = some (.slice et)) (hi : (P.info? et).map (fun i => (i.zero, i.size, i.bytes)) = some (some z, 1, bytes)) (hz : z.cells = #[z]) (n : Nat) (hn : n ≤ 1000000) (hb : bytes ≤ 1000) (W : World) :
    (Instr.makeSlice st (.int .i64 (n : Int)) (.int .i64 (n : Int))).run P W = .ok (.slice (some ⟨W.heap.size, 0, none⟩) n n) (W.alloc (.cells (List.replicate n z).toArray et)) := by
  obtain ⟨i0, hi0, hz0, hz1, hz2⟩ := info_parts hi
  have hbb : bytes * n ≤ 1000 * 1000000 := Nat.mul_le_mul hb hn
  have hr := run_make (P := P) W st et i0 _ hs hi0 hz0 .i64 .i64 n n (by omega) (by omega) (by rw [hz2]; omega) (by omega)
  simp only [Int.toNat_natCast, hz1, Nat.mul_one] at hr
  rw [hr]
  congr 2
  apply congrArg (fun x => Obj.cells x et)
  apply Array.toList_inj.1
  simp [hz, toList_madeCells_one]

theorem run_append_nil {P : Program} (w : World) (base : Nat) (t ty e : TypeId) (i : TypeInfo) (ht : P.underlying t = some (.slice e)) (hi : P.info? e = some i)
    (v : Value) (n : Nat) (xs : List Value) (hown : w.ownsRow base e 1 v n xs) (c : Nat) : (Builtin.append_ #[t, t] ty #[v, .slice none 0 c]).run P w = .ok v w := by
  rcases hown.2 with ⟨rfl, rfl⟩ | ⟨g, cap, cur, rfl, _, _, hnc, _⟩
  · simp [Builtin.append_, run_underlying ht, sizeOf, typeInfo, hi, Builtin.lenOf, Builtin.firstCells]
  · simp [Builtin.append_, run_underlying ht, sizeOf, typeInfo, hi, Builtin.lenOf, Builtin.firstCells, hnc, storeCells]

theorem run_append_row {P : Program} (w : World) (base : Nat) (t ty e : TypeId) (z : Value) (bytes : Nat) (ht : P.underlying t = some (.slice e)) (hi : (P.info? e).map (fun i => (i.zero, i.size, i.bytes)) = some (some z, 1, bytes)) (hzs : z.cells.size = 1)
    (v : Value) (n : Nat) (xs : List Value) (hown : w.ownsRow base e 1 v n xs)
    (B : Nat) (A : Option Addr) (m c : Nat) (vs : List Value) (hr : RowV w B A m vs) (h1 : ∀ u ∈ vs, u.oneCell' = true) (hm : n + m ≤ 1000000) (hby : bytes ≤ 1000) (hbase : base ≤ w.heap.size) :
    ∃ v' w', (Builtin.append_ #[t, t] ty #[v, .slice A m c]).run P w = .ok v' w' ∧ w'.ownsRow base e 1 v' (n + m) (xs ++ vs) ∧ w.grownBy w' v.ownBlock ∧ (v'.ownBlock = v.ownBlock ∨ v'.ownBlock = some w.heap.size) := by
  obtain ⟨i0, hi0, hz0, hz1, hz2⟩ := info_parts hi
  have hbb : (n + m) * bytes ≤ 1000000 * 1000 := Nat.mul_le_mul hm hby
  rcases A with _ | ad
  · have h0 : m = 0 := by
      rcases Nat.eq_zero_or_pos m with h0 | h0
      · exact h0
      · obtain ⟨b, off, h, _⟩ := hr.2 h0
        cases h
    subst h0
    obtain rfl : vs = [] := List.eq_nil_of_length_eq_zero hr.1
    exact ⟨v, w, run_append_nil w base t ty e i0 ht hi0 v n xs hown c, by simpa using hown, World.grownBy.refl w _, .inl rfl⟩
  · have hcells : ∀ j u, vs[j]? = some u → w.cell? (ad.add j) = some u := by
      intro j u hu
      rcases Nat.eq_zero_or_pos m with h0 | h0
      · subst h0
        obtain rfl : vs = [] := List.eq_nil_of_length_eq_zero hr.1
        simp at hu
      · obtain ⟨ad', h, _, hc⟩ := hr.src h0
        injection h with h
        subst h
        exact hc j u hu
    obtain ⟨v', w', hrun, h2, h3, _, h5⟩ := run_append_own_at (P := P) w base t ty e i0 z 1 bytes ht hi0 hz0 hz1 hz2 hzs (by omega) v n xs hown ad m c vs (by rw [hr.1]; omega) hcells h1 (by simp only [maxLen]; omega) (by omega) hbase
    exact ⟨v', w', hrun, h2, h3, h5⟩

/-- One append of a slice onto a row of the call's own. -/
theorem wpList_append_row {P : Program} (w : World) {ops : Array Oper} {rest : List Oper} {o : Oper} {a : Act} {Q : Exit → Act → World → Prop} (hgd : o.guard = none) (s x : Operand) (t : TypeId)
    (ho : o.op = .call { callee := .builtin .append, args := #[s, x], argTypes := #[t, t] })
    (base : Nat) (e : TypeId) (z : Value) (bytes : Nat) (ht : P.underlying t = some (.slice e)) (hi : (P.info? e).map (fun i => (i.zero, i.size, i.bytes)) = some (some z, 1, bytes)) (hzs : z.cells.size = 1)
    (v : Value) (n : Nat) (xs : List Value) (hs : a.eval s = v) (hown : w.ownsRow base e 1 v n xs)
    (B : Nat) (A : Option Addr) (m c : Nat) (vs : List Value) (hx : a.eval x = .slice A m c) (hr : RowV w B A m vs) (h1 : ∀ u ∈ vs, u.oneCell' = true) (hm : n + m ≤ 1000000) (hby : bytes ≤ 1000) (hbase : base ≤ w.heap.size)
    (h : ∀ v' w', w'.ownsRow base e 1 v' (n + m) (xs ++ vs) → w.grownBy w' v.ownBlock → (v'.ownBlock = v.ownBlock ∨ v'.ownBlock = some w.heap.size) → wpList P ops Q rest (a.put o.dst v') w') : wpList P ops Q (o :: rest) a w := by
  refine wpList_plain hgd fun _ hK => ?_
  obtain ⟨v', w', hrun, h2, h3, h4⟩ := run_append_row (P := P) w base t o.type e z bytes ht hi hzs v n xs hown B A m c vs hr h1 hm hby hbase
  unfold Oper.wp execOp
  simp only [ho, resolve, invoke, builtin, Sem.run_bind, Sem.run_pure, Result.andThen_ok, List.map_toArray, List.map_cons, List.map_nil, hs, hx, hrun]
  exact hK _ _ (h v' w' h2 h3 h4)

section
variable {w : World} {base : Nat} {e : TypeId} {v : Value} {n : Nat} {xs : List Value}

theorem own_none (w : World) (base : Nat) (e : TypeId) : w.ownsRow base e 1 (.slice none 0 0) 0 [] := ⟨by simp, .inl ⟨rfl, rfl⟩⟩
theorem own_ge (h : w.ownsRow base e 1 v n xs) : ∀ g, v.ownBlock = some g → base ≤ g := by
  intro g hg
  rcases h.2 with ⟨rfl, _⟩ | ⟨g', cap, cur, rfl, hb, _⟩
  · simp [Value.ownBlock] at hg
  · have : g' = g := by simpa [Value.ownBlock] using hg
    omega
theorem own_slice (h : w.ownsRow base e 1 v n xs) : ∃ A c, v = .slice A n c := by
  rcases h.2 with ⟨rfl, rfl⟩ | ⟨g', cap, cur, rfl, hb, _⟩
  · exact ⟨none, 0, rfl⟩
  · exact ⟨_, _, rfl⟩
theorem row_of_own (h : w.ownsRow base e 1 v n xs) (hn : 0 < n) : ∃ g cap, v = .slice (some ⟨g, 0, none⟩) n cap ∧ base ≤ g ∧ RowV w w.heap.size (some ⟨g, 0, none⟩) n xs := by
  have hl := h.1
  rcases h.2 with ⟨_, h0⟩ | ⟨g, cap, cur, rfl, hb, hh, hnc, _, hcs, ht⟩
  · omega
  · rw [Nat.mul_one] at hl
    refine ⟨g, cap, rfl, hb, hl, fun _ => ⟨g, 0, rfl, ?_, fun j hj => ?_⟩⟩
    · rcases Nat.lt_or_ge g w.heap.size with hlt | hge
      · exact hlt
      · rw [Array.getElem?_eq_none hge] at hh; cases hh
    · rw [Nat.zero_add, cell_of_row w g j _ _ _ hh]
      have h1 : (List.take (n * 1) cur.toList)[j]? = xs[j]? := by rw [ht]
      rw [List.getElem?_take, if_pos (by omega)] at h1
      rw [← Array.getElem?_toList, h1]
theorem own_row {A : Option Addr} {c : Nat} (h : w.ownsRow base e 1 (.slice A n c) n xs) : RowV w w.heap.size A n xs := by
  rcases Nat.eq_zero_or_pos n with h0 | h0
  · subst h0
    obtain rfl : xs = [] := List.eq_nil_of_length_eq_zero (by simpa using h.1)
    exact RowV.nil
  · obtain ⟨g, cap, e, _, hr⟩ := row_of_own h h0
    injection e with e1 e2 e3
    subst e1
    exact hr
/-- A row of the call's own, as a block that may be written. -/
theorem own_open (h : w.ownsRow base e 1 v n xs) (hn : 0 < n) : ∃ g cap, v = .slice (some ⟨g, 0, none⟩) n cap ∧ base ≤ g ∧ RowV w w.heap.size (some ⟨g, 0, none⟩) n xs ∧ (∀ i, w.frozen? ⟨g, i, none⟩ = false) ∧
    ∀ i u, (w.setCell ⟨g, i, none⟩ u).ownsRow base e 1 v n (xs.set i u) := by
  obtain ⟨g, cap, hv, hb, hr⟩ := row_of_own h hn
  refine ⟨g, cap, hv, hb, hr, ?_, ?_⟩
  · intro i
    rcases h.2 with ⟨_, h0⟩ | ⟨g', cap', cur, hv', _, hh, _⟩
    · omega
    · rw [hv] at hv'
      injection hv' with e1
      injection e1 with e1
      injection e1 with e1
      subst e1
      exact frozen_of_row w g i cur e hh
  · intro i u
    refine ⟨by rw [List.length_set]; exact h.1, .inr ?_⟩
    rcases h.2 with ⟨_, h0⟩ | ⟨g', cap', cur, hv', hb', hh, hnc, hm, hcs, ht⟩
    · omega
    · rw [hv] at hv'
      injection hv' with e1 _ e3
      injection e1 with e1
      injection e1 with e1
      subst e1
      subst e3
      refine ⟨g, cap, cur.setIfInBounds i u, hv, hb', heap_set w g i cur e (0, 0) hh u, hnc, hm, by simpa using hcs, ?_⟩
      rw [← ht]
      simp [List.take_set]
/-- Append's world keeps what lay below. -/
theorem below_append {B : Nat} {w0 w' : World} (hb : Below B w0 w) (h : w.ownsRow B e 1 v n xs) (hg : w.grownBy w' v.ownBlock) (hB : B ≤ w.heap.size) : Below B w0 w' := hb.grown hg hB (own_ge h)

end

/-- What is known of a slice of integers that came in: nil, or an address with all its cells up to the capacity. -/
def IsRow (k : IntKind) (w : World) (a : Option Addr) (len cap : Nat) (zs : List Int) : Prop :=
  (a = none ∧ len = 0 ∧ cap = 0 ∧ zs = []) ∨
  ∃ x, a = some x ∧ len ≤ cap ∧ cap ≤ maxLen ∧ zs.length = cap ∧ (∀ i, i < zs.length → w.cell? (x.add i) = some (.int k (zs.getD i 0))) ∧ ∀ n ∈ zs, (Lit.int k n).wf = true
/-- The same, of bools. -/
def IsBools (w : World) (a : Option Addr) (len cap : Nat) (bs : List Bool) : Prop :=
  (a = none ∧ len = 0 ∧ cap = 0 ∧ bs = []) ∨
  ∃ x, a = some x ∧ len ≤ cap ∧ cap ≤ maxLen ∧ bs.length = cap ∧ ∀ i, i < cap → w.cell? (x.add i) = some (.bool (bs.getD i false))

theorem add_none (b off j : Nat) : (Addr.add ⟨b, off, none⟩ j) = ⟨b, off + j, none⟩ := by
  unfold Addr.add
  split
  · rename_i h; subst h; rfl
  · rfl

theorem IsRow.row {k : IntKind} {w : World} {a : Option Addr} {len cap : Nat} {zs : List Int} (h : IsRow k w a len cap zs) : Row k w w.heap.size a len (zs.take len) := by
  rcases h with ⟨rfl, rfl, rfl, rfl⟩ | ⟨x, rfl, hl, hm, hz, hcell, hwz⟩
  · exact ⟨rfl, fun h => absurd h (by omega)⟩
  · refine ⟨by rw [List.length_take]; omega, fun h0 => ?_⟩
    obtain ⟨b, off, spot⟩ := x
    have hc := hcell 0 (by omega)
    have hspot : spot = none := by simpa [Addr.add] using World.cell?_spot hc
    subst hspot
    refine ⟨b, off, rfl, ?_, fun j hj => ?_⟩
    · have := World.block_lt_of_cell? w _ hc
      simpa [Addr.add] using this
    · have h2 := hcell j (by omega)
      rw [add_none] at h2
      rw [h2]
      simp [List.getD, hj]
theorem IsBools.row {w : World} {a : Option Addr} {len cap : Nat} {bs : List Bool} (h : IsBools w a len cap bs) : BRow w w.heap.size a len (bs.take len) := by
  rcases h with ⟨rfl, rfl, rfl, rfl⟩ | ⟨x, rfl, hl, hm, hz, hcell⟩
  · exact ⟨rfl, fun h => absurd h (by omega)⟩
  · refine ⟨by rw [List.length_take]; omega, fun h0 => ?_⟩
    obtain ⟨b, off, spot⟩ := x
    have hc := hcell 0 (by omega)
    have hspot : spot = none := by simpa [Addr.add] using World.cell?_spot hc
    subst hspot
    refine ⟨b, off, rfl, ?_, fun j hj => ?_⟩
    · have := World.block_lt_of_cell? w _ hc
      simpa [Addr.add] using this
    · have h2 := hcell j (by omega)
      rw [add_none] at h2
      rw [h2]
      simp [List.getD, hj]
theorem IsRow.wf {k : IntKind} {w : World} {a : Option Addr} {len cap : Nat} {zs : List Int} (h : IsRow k w a len cap zs) : ∀ n ∈ zs.take len, (Lit.int k n).wf = true := by
  rcases h with ⟨rfl, rfl, rfl, rfl⟩ | ⟨x, rfl, hl, hm, hz, hcell, hwz⟩
  · intro n hn; simp at hn
  · exact fun n hn => hwz n (List.mem_of_mem_take hn)
theorem IsRow.le {k : IntKind} {w : World} {a : Option Addr} {len cap : Nat} {zs : List Int} (h : IsRow k w a len cap zs) : len ≤ maxLen := by
  rcases h with ⟨rfl, rfl, rfl, rfl⟩ | ⟨x, rfl, hl, hm, hz, hcell, hwz⟩
  · simp [maxLen]
  · omega
theorem IsBools.le {w : World} {a : Option Addr} {len cap : Nat} {bs : List Bool} (h : IsBools w a len cap bs) : len ≤ maxLen := by
  rcases h with ⟨rfl, rfl, rfl, rfl⟩ | ⟨x, rfl, hl, hm, hz, hcell⟩
  · simp [maxLen]
  · omega

theorem IsRow.cap {k : IntKind} {w : World} {a : Option Addr} {len cap : Nat} {zs : List Int} (h : IsRow k w a len cap zs) : len ≤ cap := by
  rcases h with ⟨rfl, rfl, rfl, rfl⟩ | ⟨x, rfl, hl, hm, hz, hcell, hwz⟩ <;> omega
theorem IsBools.cap {w : World} {a : Option Addr} {len cap : Nat} {bs : List Bool} (h : IsBools w a len cap bs) : len ≤ cap := by
  rcases h with ⟨rfl, rfl, rfl, rfl⟩ | ⟨x, rfl, hl, hm, hz, hcell⟩ <;> omega

/-- Bytes. -/
def Bytes8 (zs : List Int) : Prop := ∀ x ∈ zs, 0 ≤ x ∧ x ≤ 255
theorem Bytes8.at_ {zs : List Int} (h : Bytes8 zs) (k : Nat) : 0 ≤ zs[k]?.getD 0 ∧ zs[k]?.getD 0 ≤ 255 := by
  rcases hk : zs[k]? with _ | z
  · simp
  · exact h z (List.mem_of_getElem? hk)
theorem IsRow.bytes {w : World} {a : Option Addr} {len cap : Nat} {zs : List Int} (h : IsRow .u8 w a len cap zs) : Bytes8 (zs.take len) := fun x hx => by
  have := bounds_u8 (h.wf x hx)
  omega

theorem isBools_mk {w : World} {x : Addr} {len cap : Nat} (B : Nat → Bool) (hl : len ≤ cap) (hm : cap ≤ maxLen) (hc : ∀ i, i < cap → w.cell? (x.add i) = some (.bool (B i))) : ∃ bs, IsBools w (some x) len cap bs :=
  ⟨(List.range cap).map B, .inr ⟨x, rfl, hl, hm, by simp, fun i hi => by rw [hc i hi]; simp [hi]⟩⟩

/-- Bytes as a string. -/
theorem strOfNums_append (xs ys : List Int) : strOfNums (xs ++ ys) = strOfNums xs ++ strOfNums ys := by
  apply ByteArray.ext
  rw [ByteArray.data_append]
  simp [strOfNums]
end Go.Proofs.Ytlnmdepaobocnaa

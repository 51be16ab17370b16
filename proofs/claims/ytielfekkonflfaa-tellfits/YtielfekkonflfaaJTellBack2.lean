/- Joined: FarW Box2 End14 End14b End14c Iden1 Iden2 PObjs Own2. -/
import Derived.Test.YtielfekkonflfaaPBox14
import Derived.Deep.MidRow
import Derived.Laws.ResultCell
import Derived.Test.YtielfekkonflfaaObjs
import Derived.Test.YtielfekkonflfaaTSpec
import Derived.Test.YtielfekkonflfaaStep
import Derived.Deep.RegionLaw
namespace Go.Proofs.Ytielfekkonflfaa
open Go.ChangeShapes Go.WideShapes Go.ChangeAt Go.RowKit
set_option linter.unusedVariables false
set_option linter.unusedSimpArgs false

theorem whole_far {w : World} {g k : Nat} {t : TypeId} {vs : List Value} (h : WholeV w g t vs) (hk : g ≠ k) (i : Nat) (v : Value) : WholeV (w.setCell ⟨k, i, none⟩ v) g t vs := (Below.heap_setCell w ⟨k, i, none⟩ v g hk).trans h

theorem box2 (w : World) (T : TypeId) (vs us : List Value) : Below w.heap.size w (w.alloc (.cells vs.toArray T)) ∧ Below w.heap.size w ((w.alloc (.cells vs.toArray T)).alloc (.cells us.toArray T)) ∧
    WholeV ((w.alloc (.cells vs.toArray T)).alloc (.cells us.toArray T)) (w.heap.size + 1) T us ∧ WholeV ((w.alloc (.cells vs.toArray T)).alloc (.cells us.toArray T)) w.heap.size T vs := by
  refine ⟨(Below.refl _ _).alloc (Nat.le_refl _) _, ((Below.refl _ _).alloc (Nat.le_refl _) _).alloc (by simp) _, ?_, ?_⟩
  · have h := heap_alloc_new (w.alloc (.cells vs.toArray T)) (.cells us.toArray T)
    rwa [show (w.alloc (.cells vs.toArray T)).heap.size = w.heap.size + 1 by simp] at h
  · have h : WholeV (w.alloc (.cells vs.toArray T)) w.heap.size T vs := heap_alloc_new w _
    exact h.below ((Below.refl _ _).alloc (Nat.le_refl _) _) (by simp)
theorem frozen14 {w : World} {g : Nat} {T : TypeId} {vs : List Value} (h : WholeV w g T vs) : w.frozen? ⟨g, 0, none⟩ = false ∧ w.frozen? ⟨g, 1, none⟩ = false ∧ w.frozen? ⟨g, 2, none⟩ = false ∧ w.frozen? ⟨g, 3, none⟩ = false ∧ w.frozen? ⟨g, 4, none⟩ = false ∧ w.frozen? ⟨g, 5, none⟩ = false ∧ w.frozen? ⟨g, 6, none⟩ = false ∧ w.frozen? ⟨g, 7, none⟩ = false ∧ w.frozen? ⟨g, 8, none⟩ = false ∧ w.frozen? ⟨g, 9, none⟩ = false ∧ w.frozen? ⟨g, 10, none⟩ = false ∧ w.frozen? ⟨g, 11, none⟩ = false ∧ w.frozen? ⟨g, 12, none⟩ = false ∧ w.frozen? ⟨g, 13, none⟩ = false :=
  ⟨h.frozen 0, h.frozen 1, h.frozen 2, h.frozen 3, h.frozen 4, h.frozen 5, h.frozen 6, h.frozen 7, h.frozen 8, h.frozen 9, h.frozen 10, h.frozen 11, h.frozen 12, h.frozen 13⟩

theorem info14 : (Try.prog.info? 28).map (·.size) = some 14 := by kernel_rfl
theorem load14 {w : World} {g : Nat} {T : TypeId} {b0 b1 b2 b3 b4 b5 b6 b7 b8 b9 b10 b11 b12 b13 : Value} (h : WholeV w g T [b0, b1, b2, b3, b4, b5, b6, b7, b8, b9, b10, b11, b12, b13]) : (loadVar 28 ⟨g, 0, none⟩).run Try.prog w = .ok (.agg #[b0, b1, b2, b3, b4, b5, b6, b7, b8, b9, b10, b11, b12, b13]) w := by
  cases hq : Try.prog.underlying 28 with
  | none => exact absurd hq (by rw [Try.underlying28]; simp)
  | some d =>
    have hd : d.isRow = true := by
      rw [Try.underlying28] at hq
      injection hq with hq
      subst hq
      rfl
    exact run_loadVar_mid w g 0 _ [b0, b1, b2, b3, b4, b5, b6, b7, b8, b9, b10, b11, b12, b13] d (fun j v hv => by rw [Nat.zero_add, h.cell j]; exact hv) hq hd info14
theorem own_blk {X Y : World} {b : Nat} {e : TypeId} {s : Nat} {v : Value} {n g : Nat} {xs : List Value} (h : X.ownsRow b e s v n xs) (hk : ∀ k, k ≠ g → Y.heap[k]? = X.heap[k]?) (hg : g < b) : Y.ownsRow b e s v n xs := by
  refine ⟨h.1, ?_⟩
  rcases h.2 with h0 | ⟨g', cap, cur, hv, hg', hh, rest⟩
  · exact .inl h0
  · exact .inr ⟨g', cap, cur, hv, hg', (hk g' (by omega)).trans hh, rest⟩
theorem kept14 (X : World) (g : Nat) (b0 b1 b2 b3 b4 b5 b6 b7 b8 b9 b10 b11 b12 b13 : Value) (k : Nat) (hk : k ≠ g) : ((((((((((((((X.setCell ⟨g, 0, none⟩ b0).setCell ⟨g, 1, none⟩ b1).setCell ⟨g, 2, none⟩ b2).setCell ⟨g, 3, none⟩ b3).setCell ⟨g, 4, none⟩ b4).setCell ⟨g, 5, none⟩ b5).setCell ⟨g, 6, none⟩ b6).setCell ⟨g, 7, none⟩ b7).setCell ⟨g, 8, none⟩ b8).setCell ⟨g, 9, none⟩ b9).setCell ⟨g, 10, none⟩ b10).setCell ⟨g, 11, none⟩ b11).setCell ⟨g, 12, none⟩ b12).setCell ⟨g, 13, none⟩ b13).heap[k]? = X.heap[k]? := by
  have one : ∀ (w : World) (i : Nat) (v : Value), (w.setCell ⟨g, i, none⟩ v).heap[k]? = w.heap[k]? := fun w i v => Below.heap_setCell w ⟨g, i, none⟩ v k hk
  simp only [one]
theorem below14 {B : Nat} {a X : World} (h : Below B a X) {g : Nat} (hg : B ≤ g) (b0 b1 b2 b3 b4 b5 b6 b7 b8 b9 b10 b11 b12 b13 : Value) : Below B a ((((((((((((((X.setCell ⟨g, 0, none⟩ b0).setCell ⟨g, 1, none⟩ b1).setCell ⟨g, 2, none⟩ b2).setCell ⟨g, 3, none⟩ b3).setCell ⟨g, 4, none⟩ b4).setCell ⟨g, 5, none⟩ b5).setCell ⟨g, 6, none⟩ b6).setCell ⟨g, 7, none⟩ b7).setCell ⟨g, 8, none⟩ b8).setCell ⟨g, 9, none⟩ b9).setCell ⟨g, 10, none⟩ b10).setCell ⟨g, 11, none⟩ b11).setCell ⟨g, 12, none⟩ b12).setCell ⟨g, 13, none⟩ b13) :=
  ((((((((((((((h.setCell (p := ⟨g, 0, none⟩) hg b0).setCell (p := ⟨g, 1, none⟩) hg b1).setCell (p := ⟨g, 2, none⟩) hg b2).setCell (p := ⟨g, 3, none⟩) hg b3).setCell (p := ⟨g, 4, none⟩) hg b4).setCell (p := ⟨g, 5, none⟩) hg b5).setCell (p := ⟨g, 6, none⟩) hg b6).setCell (p := ⟨g, 7, none⟩) hg b7).setCell (p := ⟨g, 8, none⟩) hg b8).setCell (p := ⟨g, 9, none⟩) hg b9).setCell (p := ⟨g, 10, none⟩) hg b10).setCell (p := ⟨g, 11, none⟩) hg b11).setCell (p := ⟨g, 12, none⟩) hg b12).setCell (p := ⟨g, 13, none⟩) hg b13)
/-- The box was written, and a pair of it and of a slot goes back. -/
theorem end14 {F : Func} {p u : Tmp} (hF : F.results = #[.cell p 28, .tmp u]) {X : World} {g : Nat} {T : TypeId} {olds : List Value} (hx : WholeV X g T olds) (hl : olds.length = 14) {B : Nat} {a : World} (hb : Below B a X) (hg : B ≤ g)
    {tmps : Array Value} {b0 b1 b2 b3 b4 b5 b6 b7 b8 b9 b10 b11 b12 b13 v : Value} {Q : Ending → World → Prop} (hp : tmps.getD p undef = .pointer (some ⟨g, 0, none⟩)) (hu : tmps.getD u undef = v)
    (hQ : ∀ w9, Below B a w9 → (∀ k, k ≠ g → w9.heap[k]? = X.heap[k]?) → Q (.returned (.tuple #[.agg #[b0, b1, b2, b3, b4, b5, b6, b7, b8, b9, b10, b11, b12, b13], v])) w9) :
    bodyPost Try.prog F Q .ret ⟨tmps, []⟩ ((((((((((((((X.setCell ⟨g, 0, none⟩ b0).setCell ⟨g, 1, none⟩ b1).setCell ⟨g, 2, none⟩ b2).setCell ⟨g, 3, none⟩ b3).setCell ⟨g, 4, none⟩ b4).setCell ⟨g, 5, none⟩ b5).setCell ⟨g, 6, none⟩ b6).setCell ⟨g, 7, none⟩ b7).setCell ⟨g, 8, none⟩ b8).setCell ⟨g, 9, none⟩ b9).setCell ⟨g, 10, none⟩ b10).setCell ⟨g, 11, none⟩ b11).setCell ⟨g, 12, none⟩ b12).setCell ⟨g, 13, none⟩ b13) := by
  refine bodyPost_ret (v := .tuple #[.agg #[b0, b1, b2, b3, b4, b5, b6, b7, b8, b9, b10, b11, b12, b13], v]) ?_ rfl (hQ _ (below14 hb hg _ _ _ _ _ _ _ _ _ _ _ _ _ _) (kept14 X g _ _ _ _ _ _ _ _ _ _ _ _ _ _))
  rw [results_cell_tmp hF]
  have hld := load14 (all14 hx b0 b1 b2 b3 b4 b5 b6 b7 b8 b9 b10 b11 b12 b13 hl)
  show ((asAddr (tmps.getD p undef)).run Try.prog _).andThen _ = _
  rw [hp]
  simp only [asAddr, Sem.run_pure, Result.andThen_ok, hld]
  rw [show (Act.tmps ⟨tmps, []⟩).getD u undef = v from hu]
/-- The world behind a walk, by a name. -/
theorem named {Y a : World} {g h B : Nat} {T : TypeId} {vs us : List Value} (H4 : Hid (WholeV Y g T vs)) (H2 : Hid (WholeV Y h T us)) (HB : Hid (Below B a Y)) (d : Nat) : ∃ w3, Y.drewN d = w3 ∧ Hid (WholeV w3 g T vs) ∧ Hid (WholeV w3 h T us) ∧ Hid (Below B a w3) :=
  ⟨_, rfl, H4.out.drewN d, H2.out.drewN d, below_drewN HB.out d⟩
theorem named0 {Y a : World} {g h B : Nat} {T : TypeId} {vs us : List Value} (H4 : Hid (WholeV Y g T vs)) (H2 : Hid (WholeV Y h T us)) (HB : Hid (Below B a Y)) : ∃ w3, Y = w3 ∧ Hid (WholeV w3 g T vs) ∧ Hid (WholeV w3 h T us) ∧ Hid (Below B a w3) :=
  ⟨_, rfl, H4, H2, HB⟩

/-- Four stores behind a draw, in whatever order. -/
theorem four14 {w3 a : World} {g h B : Nat} {T : TypeId} {vs us : List Value} (H4 : Hid (WholeV w3 g T vs)) (H2 : Hid (WholeV w3 h T us)) (HB : Hid (Below B a w3)) (hne : h ≠ g) (hg : B ≤ g) (i1 i2 i3 i4 : Nat) (x1 x2 x3 x4 : Value) :
    Hid (WholeV ((((w3.drew.setCell ⟨g, i1, none⟩ x1).setCell ⟨g, i2, none⟩ x2).setCell ⟨g, i3, none⟩ x3).setCell ⟨g, i4, none⟩ x4) g T ((((vs.set i1 x1).set i2 x2).set i3 x3).set i4 x4)) ∧
      Hid (WholeV ((((w3.drew.setCell ⟨g, i1, none⟩ x1).setCell ⟨g, i2, none⟩ x2).setCell ⟨g, i3, none⟩ x3).setCell ⟨g, i4, none⟩ x4) h T us) ∧
      Hid (Below B a ((((w3.drew.setCell ⟨g, i1, none⟩ x1).setCell ⟨g, i2, none⟩ x2).setCell ⟨g, i3, none⟩ x3).setCell ⟨g, i4, none⟩ x4)) :=
  ⟨((((show WholeV w3.drew g T vs from H4.out).set i1 x1).set i2 x2).set i3 x3).set i4 x4, whole_far (whole_far (whole_far (whole_far (show WholeV w3.drew h T us from H2.out) hne i1 x1) hne i2 x2) hne i3 x3) hne i4 x4,
    (((HB.out.drew.setCell (p := ⟨g, i1, none⟩) hg x1).setCell (p := ⟨g, i2, none⟩) hg x2).setCell (p := ⟨g, i3, none⟩) hg x3).setCell (p := ⟨g, i4, none⟩) hg x4⟩
/-- The box was written, and it alone goes back. -/
theorem end14s {F : Func} {p : Tmp} (hF : F.results = #[.cell p 28]) {X : World} {g : Nat} {T : TypeId} {olds : List Value} (hx : WholeV X g T olds) (hl : olds.length = 14) {B : Nat} {a : World} (hb : Below B a X) (hg : B ≤ g)
    {tmps : Array Value} {b0 b1 b2 b3 b4 b5 b6 b7 b8 b9 b10 b11 b12 b13 : Value} {Q : Ending → World → Prop} (hp : tmps.getD p undef = .pointer (some ⟨g, 0, none⟩))
    (hQ : ∀ w9, Below B a w9 → (∀ k, k ≠ g → w9.heap[k]? = X.heap[k]?) → Q (.returned (.agg #[b0, b1, b2, b3, b4, b5, b6, b7, b8, b9, b10, b11, b12, b13])) w9) :
    bodyPost Try.prog F Q .ret ⟨tmps, []⟩ ((((((((((((((X.setCell ⟨g, 0, none⟩ b0).setCell ⟨g, 1, none⟩ b1).setCell ⟨g, 2, none⟩ b2).setCell ⟨g, 3, none⟩ b3).setCell ⟨g, 4, none⟩ b4).setCell ⟨g, 5, none⟩ b5).setCell ⟨g, 6, none⟩ b6).setCell ⟨g, 7, none⟩ b7).setCell ⟨g, 8, none⟩ b8).setCell ⟨g, 9, none⟩ b9).setCell ⟨g, 10, none⟩ b10).setCell ⟨g, 11, none⟩ b11).setCell ⟨g, 12, none⟩ b12).setCell ⟨g, 13, none⟩ b13) := by
  refine bodyPost_ret (v := .agg #[b0, b1, b2, b3, b4, b5, b6, b7, b8, b9, b10, b11, b12, b13]) ?_ rfl (hQ _ (below14 hb hg _ _ _ _ _ _ _ _ _ _ _ _ _ _) (kept14 X g _ _ _ _ _ _ _ _ _ _ _ _ _ _))
  have hld := load14 (all14 hx b0 b1 b2 b3 b4 b5 b6 b7 b8 b9 b10 b11 b12 b13 hl)
  rw [Array.getD_eq_getD_getElem?] at hp
  simp [results, hF, Sem.run_bind, Result.andThen, hp, hld, asAddr]

theorem box2t (w : World) (T U : TypeId) (vs us : List Value) : Below w.heap.size w ((w.alloc (.cells vs.toArray T)).alloc (.cells us.toArray U)) ∧
    WholeV ((w.alloc (.cells vs.toArray T)).alloc (.cells us.toArray U)) (w.heap.size + 1) U us ∧ WholeV ((w.alloc (.cells vs.toArray T)).alloc (.cells us.toArray U)) w.heap.size T vs := by
  refine ⟨((Below.refl _ _).alloc (Nat.le_refl _) _).alloc (by simp) _, ?_, ?_⟩
  · have h := heap_alloc_new (w.alloc (.cells vs.toArray T)) (.cells us.toArray U)
    rwa [show (w.alloc (.cells vs.toArray T)).heap.size = w.heap.size + 1 by simp] at h
  · have h : WholeV (w.alloc (.cells vs.toArray T)) w.heap.size T vs := heap_alloc_new w _
    exact h.below ((Below.refl _ _).alloc (Nat.le_refl _) _) (by simp)
theorem end14sa {F : Func} {p : Tmp} (hF : F.results = #[.cell p 28]) {X : World} {g : Nat} {T : TypeId} {olds : List Value} (hx : WholeV X g T olds) (hl : olds.length = 14) {B : Nat} {a : World} (hb : Below B a X) (hg : B ≤ g)
    {tmps : Array Value} {b0 b1 b2 b3 b4 b5 b6 b7 b8 b9 b10 b11 b12 b13 : Value} {Q : Ending → World → Prop} {o : Obj} (hp : tmps.getD p undef = .pointer (some ⟨g, 0, none⟩))
    (hQ : ∀ w9, Below B a w9 → Q (.returned (.agg #[b0, b1, b2, b3, b4, b5, b6, b7, b8, b9, b10, b11, b12, b13])) w9) :
    bodyPost Try.prog F Q .ret ⟨tmps, []⟩ (((((((((((((((X.setCell ⟨g, 0, none⟩ b0).setCell ⟨g, 1, none⟩ b1).setCell ⟨g, 2, none⟩ b2).setCell ⟨g, 3, none⟩ b3).setCell ⟨g, 4, none⟩ b4).setCell ⟨g, 5, none⟩ b5).setCell ⟨g, 6, none⟩ b6).setCell ⟨g, 7, none⟩ b7).setCell ⟨g, 8, none⟩ b8).setCell ⟨g, 9, none⟩ b9).setCell ⟨g, 10, none⟩ b10).setCell ⟨g, 11, none⟩ b11).setCell ⟨g, 12, none⟩ b12).setCell ⟨g, 13, none⟩ b13).alloc o) := by
  have hb9 := below14 hb hg b0 b1 b2 b3 b4 b5 b6 b7 b8 b9 b10 b11 b12 b13
  have hw9 := all14 hx b0 b1 b2 b3 b4 b5 b6 b7 b8 b9 b10 b11 b12 b13 hl
  refine bodyPost_ret (v := .agg #[b0, b1, b2, b3, b4, b5, b6, b7, b8, b9, b10, b11, b12, b13]) ?_ rfl (hQ _ (hb9.alloc (Nat.le_of_lt (Nat.lt_of_le_of_lt hg hw9.lt)) o))
  have hld := load14 (hw9.below ((Below.refl _ _).alloc (Nat.le_refl _) o) hw9.lt)
  rw [Array.getD_eq_getD_getElem?] at hp
  simp [results, hF, Sem.run_bind, Result.andThen, hp, hld, asAddr]
theorem end14a {F : Func} {p u : Tmp} (hF : F.results = #[.cell p 28, .tmp u]) {X : World} {g : Nat} {T : TypeId} {olds : List Value} (hx : WholeV X g T olds) (hl : olds.length = 14) {B : Nat} {a : World} (hb : Below B a X) (hg : B ≤ g)
    {tmps : Array Value} {b0 b1 b2 b3 b4 b5 b6 b7 b8 b9 b10 b11 b12 b13 v : Value} {Q : Ending → World → Prop} {o : Obj} (hp : tmps.getD p undef = .pointer (some ⟨g, 0, none⟩)) (hu : tmps.getD u undef = v)
    (hQ : ∀ w9, Below B a w9 → B ≤ w9.heap.size → (∀ k, k ≠ g → w9.heap[k]? = X.heap[k]?) → Q (.returned (.tuple #[.agg #[b0, b1, b2, b3, b4, b5, b6, b7, b8, b9, b10, b11, b12, b13], v])) (w9.alloc o)) :
    bodyPost Try.prog F Q .ret ⟨tmps, []⟩ (((((((((((((((X.setCell ⟨g, 0, none⟩ b0).setCell ⟨g, 1, none⟩ b1).setCell ⟨g, 2, none⟩ b2).setCell ⟨g, 3, none⟩ b3).setCell ⟨g, 4, none⟩ b4).setCell ⟨g, 5, none⟩ b5).setCell ⟨g, 6, none⟩ b6).setCell ⟨g, 7, none⟩ b7).setCell ⟨g, 8, none⟩ b8).setCell ⟨g, 9, none⟩ b9).setCell ⟨g, 10, none⟩ b10).setCell ⟨g, 11, none⟩ b11).setCell ⟨g, 12, none⟩ b12).setCell ⟨g, 13, none⟩ b13).alloc o) := by
  have hb9 := below14 hb hg b0 b1 b2 b3 b4 b5 b6 b7 b8 b9 b10 b11 b12 b13
  have hw9 := all14 hx b0 b1 b2 b3 b4 b5 b6 b7 b8 b9 b10 b11 b12 b13 hl
  refine bodyPost_ret (v := .tuple #[.agg #[b0, b1, b2, b3, b4, b5, b6, b7, b8, b9, b10, b11, b12, b13], v]) ?_ rfl (hQ _ hb9 (Nat.le_of_lt (Nat.lt_of_le_of_lt hg hw9.lt)) (kept14 X g _ _ _ _ _ _ _ _ _ _ _ _ _ _))
  rw [results_cell_tmp hF]
  have hld := load14 (hw9.below ((Below.refl _ _).alloc (Nat.le_refl _) o) hw9.lt)
  show ((asAddr (tmps.getD p undef)).run Try.prog _).andThen _ = _
  rw [hp]
  simp only [asAddr, Sem.run_pure, Result.andThen_ok, hld]
  rw [show (Act.tmps ⟨tmps, []⟩).getD u undef = v from hu]

/-- How many objects, from the first on, have Ids that are not above this one. -/
def upN (os : List Ob) (id : Int) : Nat := (os.takeWhile fun o => decide (o.1 ≤ id)).length
theorem upN_le (os : List Ob) (id : Int) : upN os id ≤ os.length := by
  unfold upN
  induction os with
  | nil => simp
  | cons o os ih =>
    rw [List.takeWhile_cons]
    split <;> simp_all
theorem upN_in (os : List Ob) (id : Int) (k : Nat) (hk : k < upN os id) : (os.getD k ob0).1 ≤ id := by
  induction os generalizing k with
  | nil => simp [upN] at hk
  | cons o os ih =>
    unfold upN at hk
    rw [List.takeWhile_cons] at hk
    split at hk
    · rename_i ho
      cases k with
      | zero => simpa using ho
      | succ k => exact ih k (by unfold upN; simpa using hk)
    · simp at hk
theorem upN_out (os : List Ob) (id : Int) (hk : upN os id < os.length) : id < (os.getD (upN os id) ob0).1 := by
  induction os with
  | nil => simp at hk
  | cons o os ih =>
    by_cases ho : o.1 ≤ id
    · have he : upN (o :: os) id = upN os id + 1 := by simp [upN, List.takeWhile_cons, ho]
      rw [he] at hk ⊢
      exact ih (by simpa using hk)
    · have he : upN (o :: os) id = 0 := by simp [upN, List.takeWhile_cons, ho]
      rw [he]
      simpa using ho
/-- The level that the document says. -/
def levelOf (os : List Ob) : Int := if upN os 127 < os.length then 131 else if upN os 2 < os.length then 130 else 129

section
variable {w w' : World} {B B' : Nat} {A : Option Addr} {n : Nat} {os : List Ob}
theorem OL.take (h : OL w B A n os) (m : Nat) (hm : m ≤ n) : OL w B A m (os.take m) := by
  have hl := h.len
  refine ⟨by rw [obs_length, List.length_take]; omega, fun h0 => ?_⟩
  obtain ⟨b, off, hA, hb, hc⟩ := h.2 (by omega)
  refine ⟨b, off, hA, hb, fun j hj => ?_⟩
  rw [hc j (by omega), obs_take, List.getElem?_take, if_pos (by omega)]
theorem OL.drop {b off : Nat} (h : OL w B (some ⟨b, off, none⟩) n os) (i : Nat) (hi : i ≤ n) : OL w B (some ⟨b, off + i * 2, none⟩) (n - i) (os.drop i) := by
  have hl := h.len
  refine ⟨by rw [obs_length, List.length_drop]; omega, fun h0 => ?_⟩
  obtain ⟨b', off', hA, hb, hc⟩ := h.2 (by omega)
  injection hA with hA
  injection hA with e1 e2
  subst e1 e2
  refine ⟨b, _, rfl, hb, fun j hj => ?_⟩
  rw [Nat.add_assoc, hc _ (by omega), obs_drop, List.getElem?_drop, Nat.mul_comm i 2]
end

/-- How many bytes objects take in a reply. -/
def used (os : List Ob) : Nat := (os.map fun o => 2 + o.2.size).sum
theorem used_cons (o : Ob) (os : List Ob) : used (o :: os) = 2 + o.2.size + used os := by simp [used]
theorem used_append (os ps : List Ob) : used (os ++ ps) = used os + used ps := by simp [used]
theorem used_take (os : List Ob) (k : Nat) (hk : k < os.length) : used (os.take (k + 1)) = used (os.take k) + (2 + (os.getD k ob0).2.size) := by
  rw [List.take_succ_eq_append_getElem hk, used_append, used_cons]
  simp [used, hk]
theorem used_le (os : List Ob) (k : Nat) : used (os.take k) ≤ used os := by
  have h := used_append (os.take k) (os.drop k)
  rw [List.take_append_drop] at h
  omega
/-- They fit into one. -/
def fitP (os : List Ob) : Prop := (∀ o ∈ os, 0 ≤ o.1 ∧ o.1 ≤ 255) ∧ used os ≤ 246
instance (os : List Ob) : Decidable (fitP os) := by unfold fitP; infer_instance

theorem fits_any (A : Option Addr) (n c : Nat) (os : List Ob) (w : World) (b : Bool) (hl : OL w w.heap.size A n os) (hn : n ≤ 100000) (hz : ∀ o ∈ os, o.2.size ≤ 1000000) (hb : decide (fitP os) = b) : Fits w A n c b := by
  intro W hW
  have HL := Lib.hid (hl.below hW)
  have HZ := Lib.hid hz
  have HB := Lib.hid hb
  clear hl hz hb hW
  go_enter Try.func60, Try.ntmps60
  go_wp2
  go_loopw [3, 8] (fun r i wr => ∃ k : Nat, k ≤ n ∧ i = .int .i64 (k : Int) ∧ r = .int .i64 (246 - (used (os.take k) : Int)) ∧ Hid (used (os.take k) ≤ 246) ∧ Hid (∀ o ∈ os.take k, 0 ≤ o.1 ∧ o.1 ≤ 255) ∧ Hid (Below W.heap.size W wr)) (fun _ i _ => n - (intOf i).toNat)
  case atStart => exact ⟨0, by omega, rfl, by simp [used], by simp [used, Hid], Lib.hid (by simp), Below.refl _ _⟩
  case round =>
    obtain ⟨k, hk, rfl, rfl, HU, HI, HBW⟩ := hrel
    by_cases hlt : k < n
    · have hi : (k : Int) < (n : Int) := by omega
      obtain ⟨b1, off, rfl, hb1, hc1, hc2⟩ := (HL.out.below HBW.out).at_ k hlt
      obtain ⟨x, hx⟩ : ∃ x, (os.getD k ob0).1 = x := ⟨_, rfl⟩
      obtain ⟨s, hs⟩ : ∃ s, (os.getD k ob0).2 = s := ⟨_, rfl⟩
      rw [hx] at hc1
      rw [hs] at hc2
      have hlen := HL.out.len
      have hmem : os.getD k ob0 ∈ os := by
        rw [List.getD_eq_getElem?_getD, List.getElem?_eq_getElem (by omega)]
        exact List.getElem_mem _
      have hsz : s.size ≤ 1000000 := by rw [← hs]; exact HZ.out _ hmem
      have hu1 := HU.out
      have HT := Lib.hid (used_take os k (by omega))
      have HM := Lib.hid hmem
      obtain ⟨U, hU⟩ : ∃ U, used (os.take k) = U := ⟨_, rfl⟩
      rw [hU] at hu1
      have HUE := Lib.hid hU
      have HX := Lib.hid hx
      have HS := Lib.hid hs
      have HLE := Lib.hid hlen
      rw [hU]
      clear hU hx hs hlen hmem
      by_cases hfit : 246 < U + (2 + s.size)
      · have hd : 246 - (U : Int) - 2 < (s.size : Int) := by omega
        go_wp2
        go_ret
        refine ⟨ret_bool ?_, HBW.out.alloc HBW.out.size _⟩
        rw [← HB.out]
        refine (decide_eq_false fun hf => ?_).symm
        have h1 := used_le os (k + 1)
        have h2 := HT.out
        rw [HUE.out, HS.out] at h2
        have h3 := hf.2
        omega
      · have hd : ¬ 246 - (U : Int) - 2 < (s.size : Int) := by omega
        by_cases hby : 0 ≤ x ∧ x ≤ 255
        · have HY := Lib.hid (isbyte_lit x true · (decide_eq_true hby))
          go_wp2_with (go_at_call 32; refine (HY.out _).mono ?_; rintro e w' ⟨rfl, rfl⟩)
          go_roundw
          case rel =>
            refine ⟨k + 1, by omega, by go_num, ?_, ?_, ?_, Lib.hid (HBW.out.alloc HBW.out.size _)⟩
            · rw [HT.out, HUE.out, HS.out]
              congr 1
              omega
            · apply Lib.hid
              rw [HT.out, HUE.out, HS.out]
              omega
            · apply Lib.hid
              intro o ho
              rw [List.take_succ_eq_append_getElem (by rw [HLE.out]; exact hlt)] at ho
              rcases List.mem_append.1 ho with h | h
              · exact HI.out o h
              · have : o = os.getD k ob0 := by
                  rw [List.mem_singleton.1 h, List.getD_eq_getElem?_getD, List.getElem?_eq_getElem (by rw [HLE.out]; exact hlt)]
                  rfl
                rw [this, HX.out]
                exact hby
          case measure => simp [intOf]; omega
        · have HY := Lib.hid (isbyte_lit x false · (decide_eq_false hby))
          have HBY := Lib.hid hby
          clear hby
          go_wp2_with (go_at_call 32; refine (HY.out _).mono ?_; rintro e w' ⟨rfl, rfl⟩)
          go_ret
          refine ⟨ret_bool ?_, HBW.out.alloc HBW.out.size _⟩
          rw [← HB.out]
          refine (decide_eq_false fun hf => HBY.out ?_).symm
          rw [← HX.out]
          exact hf.1 _ HM.out
    · obtain rfl : n = k := by omega
      go_wp2
      go_ret
      refine ⟨ret_bool ?_, HBW.out⟩
      rw [← HB.out]
      have hlen := HL.out.len
      have h1 := HU.out
      have h2 := HI.out
      rw [← hlen, List.take_length] at h1 h2
      exact (decide_eq_true ⟨h2, h1⟩).symm

/-- So many objects, out of bytes that have no more; or none. -/
def parseO : Nat → List Int → Option (List Ob)
  | 0, zs => if zs.length = 0 then some [] else none
  | n + 1, zs => if zs.length < 2 then none else if zs.length < 2 + (zs.getD 1 0).toNat then none else (parseO n (zs.drop (2 + (zs.getD 1 0).toNat))).map fun os => (zs.getD 0 0, strOfNums ((zs.drop 2).take (zs.getD 1 0).toNat)) :: os

theorem parseO_length : ∀ (n : Nat) (zs : List Int) (os : List Ob), parseO n zs = some os → os.length = n := by
  intro n
  induction n with
  | zero =>
    intro zs os h
    unfold parseO at h
    split at h
    · injection h with h; subst h; rfl
    · cases h
  | succ n ih =>
    intro zs os h
    unfold parseO at h
    split at h
    · cases h
    · split at h
      · cases h
      · rw [Option.map_eq_some_iff] at h
        obtain ⟨os2, h2, rfl⟩ := h
        simp [ih _ _ h2]

theorem step_append_obs {w : World} {ops : Array Oper} {o : Oper} {a : Act} {K : Act → World → Prop} {Q : Exit → Act → World → Prop} {E : Prop} (s x : Operand)
    (base : Nat) (v : Value) (n : Nat) (xs : List Ob) (m : Nat) (os : List Ob) (nm : Nat) (ys : List Ob) (hnm : n + m = nm) (hys : xs ++ os = ys) (hm : n + m ≤ 1000000)
    (ho : o.guard = none ∧ o.op = .call { callee := .builtin .append, args := #[s, x], argTypes := #[26, 26] } ∧ a.eval s = v)
    (hown : w.ownsRow base 57 2 v n (obs xs)) (hr : ∃ A c, a.eval x = .slice A m c ∧ OL w w.heap.size A m os) (hbase : base ≤ w.heap.size)
    (h : ∀ A' c' w', w'.ownsRow base 57 2 (.slice A' nm c') nm (obs ys) → w.grownBy w' v.ownBlock → K (a.put o.dst (.slice A' nm c')) w') :
    if Region.wanted o (yielded ops a.tmps) = true then Oper.wp Try.prog o a w K Q else E := by
  subst hnm hys
  obtain ⟨hgd, hop, hs⟩ := ho
  obtain ⟨A, c, hx, hr⟩ := hr
  have hw : Region.wanted o (yielded ops a.tmps) = true := by simp [Region.wanted, hgd]
  rw [if_pos hw]
  obtain ⟨v', w', hrun, h2, h3⟩ := run_append_obs w base o.type v n xs hown w.heap.size A m c os hr hm hbase
  obtain ⟨A', c', rfl⟩ := own2_slice h2
  unfold Oper.wp execOp
  simp only [hop, resolve, invoke, builtin, Sem.run_bind, Sem.run_pure, Result.andThen_ok, List.map_toArray, List.map_cons, List.map_nil, hs, hx, hrun]
  exact h A' c' w' h2 h3

theorem rowI_drop {w : World} {k : IntKind} {B b off q : Nat} {zs : List Int} (h : Row k w B (some ⟨b, off, none⟩) q zs) (m : Nat) (hm : m ≤ q) : Row k w B (some ⟨b, off + m, none⟩) (q - m) (zs.drop m) := by
  refine ⟨by rw [List.length_drop, h.1], fun h0 => ?_⟩
  obtain ⟨b', off', e, hlt, hc⟩ := h.2 (by omega)
  injection e with e
  injection e with e1 e2
  subst e1 e2
  refine ⟨b, off + m, rfl, hlt, fun j hj => ?_⟩
  rw [Nat.add_assoc, hc (m + j) (by omega)]
  simp [List.getD_eq_getElem?_getD, List.getElem?_drop]
theorem rowI_take {w : World} {k : IntKind} {B n : Nat} {A : Option Addr} {zs : List Int} (h : Row k w B A n zs) (m : Nat) (hm : m ≤ n) : Row k w B A m (zs.take m) := by
  have e : n = m + (n - m) := by omega
  rw [e, ← List.take_append_drop m zs] at h
  exact h.front (by rw [List.length_take]; have := h.1; rw [List.take_append_drop] at this; omega)

/-- What objects leaves. -/
def ObjsGot (N : Nat) (zs : List Int) (w : World) (e : Ending) (w' : World) : Prop :=
  ∃ OA ol oc ok, e = .returned (.tuple #[.slice OA ol oc, .bool ok]) ∧ Below w.heap.size w w' ∧ (∀ os, parseO N zs = some os → ok = true ∧ ol = os.length ∧ w'.ownsRow w.heap.size 57 2 (.slice OA ol oc) ol (obs os)) ∧ (parseO N zs = none → ok = false)

set_option maxRecDepth 100000 in
set_option maxHeartbeats 4000000 in
theorem pobjs_any (A : Option Addr) (n c : Nat) (zs : List Int) (N : Nat) (w : World) (hr : Row .u8 w w.heap.size A n zs) (hx : Bytes8 zs) (hn : n ≤ 1000) (hc : n ≤ c) (hN : N ≤ 255) :
    Calls Try.prog 78 #[.slice A n c, .int .i64 (N : Int)] w (ObjsGot N zs w) := by
  have HR := Lib.hid hr
  have HX := Lib.hid hx
  clear hr hx
  go_enter Try.func78, Try.ntmps78
  go_wp2
  go_loopw [0, 6, 9] (fun b l i wr => ∃ (k m d : Nat) (B OA : Option Addr) (oc : Nat), k ≤ N ∧ m ≤ n ∧ m ≤ d ∧ b = .slice B m d ∧ i = .int .i64 (k : Int) ∧ l = .slice OA k oc ∧
    Hid (∃ ys os, Row .u8 wr w.heap.size B m ys ∧ Bytes8 ys ∧ wr.ownsRow w.heap.size 57 2 (.slice OA k oc) k (obs os) ∧ os.length = k ∧ parseO N zs = (parseO (N - k) ys).map (os ++ ·) ∧ Below w.heap.size w wr)) (fun _ _ i _ => N - (intOf i).toNat)
  case atStart => exact ⟨0, n, c, A, none, 0, by omega, Nat.le_refl _, hc, rfl, rfl, rfl, zs, [], HR.out, HX.out, own2_none _ _ _, rfl, by simp, Below.refl _ _⟩
  case round =>
    obtain ⟨k, m, d, B, OA, oc, hk, hm, hmd, rfl, rfl, rfl, HI⟩ := hrel
    obtain ⟨ys, os, hrow, hy8, hown, hol, heq, hbel⟩ := HI.out
    have hyl := hrow.1
    by_cases hlt : k < N
    · have hi : (k : Int) < (N : Int) := by omega
      obtain ⟨R, hR⟩ : ∃ R, N - k = R + 1 := ⟨N - k - 1, by omega⟩
      rw [hR] at heq
      by_cases h2 : m < 2
      · have h2i : (m : Int) < 2 := by omega
        have HF : Hid (parseO N zs = none) := by
          show _ = _
          rw [heq]
          unfold parseO
          rw [if_pos (by omega)]
          rfl
        have HB := Lib.hid hbel
        clear hrow hy8 hown hol heq hbel hyl hR HI
        go_wp2
        go_ret2
        exact ⟨none, 0, 0, false, rfl, HB.out, fun os h => (by rw [HF.out] at h; cases h), fun _ => rfl⟩
      · have h2i : ¬ (m : Int) < 2 := by omega
        obtain ⟨bA, offA, hBA, hbA, hcell⟩ := hrow.2 (by omega)
        subst hBA
        have hc0 := hcell 0 (by omega)
        have hc1 := hcell 1 (by omega)
        have e1 := hy8.at_ 1
        have e0 := hy8.at_ 0
        obtain ⟨L, hL⟩ : ∃ L : Nat, ys.getD 1 0 = (L : Int) := Int.eq_ofNat_of_zero_le (by rw [List.getD_eq_getElem?_getD]; exact e1.1)
        obtain ⟨x, hx0⟩ : ∃ x, ys.getD 0 0 = x := ⟨_, rfl⟩
        rw [List.getD_eq_getElem?_getD] at hL hx0
        rw [List.getD_eq_getElem?_getD] at hc0 hc1
        rw [hL] at hc1 e1
        rw [hx0] at hc0 e0
        rw [Nat.add_zero] at hc0
        have hL2 : L ≤ 255 := by omega
        have hm2 : (2 : Int) ≤ (m : Int) := by omega
        by_cases h3 : m < 2 + L
        · have h3i : (m : Int) < 2 + (L : Int) := by omega
          have HF : Hid (parseO N zs = none) := by
            show _ = _
            rw [heq]
            unfold parseO
            rw [if_neg (by omega), List.getD_eq_getElem?_getD, hL, if_pos (by simp; omega)]
            rfl
          have HB := Lib.hid hbel
          clear hrow hy8 hown hol heq hbel hyl hR HI hcell hL hx0
          go_wp2
          go_ret2
          exact ⟨none, 0, 0, false, rfl, HB.out, fun os h => (by rw [HF.out] at h; cases h), fun _ => rfl⟩
        · have h3i : ¬ (m : Int) < 2 + (L : Int) := by omega
          have hLd : 2 + (L : Int) ≤ (d : Int) := by omega
          have HST : Hid ((convert 30 9 (.slice (some ⟨bA, offA + 2, none⟩) L (d - 2))).run Try.prog wr = .ok (.string (strOfNums ((ys.drop 2).take L))) wr) := conv_row _ _ _ _ _ ((rowI_take (rowI_drop hrow 2 (by omega)) L (by omega)).more hbel.size)
          have HEQ : Hid (parseO N zs = (parseO R (ys.drop (2 + L))).map ((os ++ [(x, strOfNums ((ys.drop 2).take L))]) ++ ·)) := by
            show _ = _
            rw [heq]
            conv => lhs; unfold parseO
            rw [if_neg (by omega), List.getD_eq_getElem?_getD, hL, if_neg (by simp; omega), List.getD_eq_getElem?_getD, hx0, Option.map_map]
            simp only [Int.toNat_natCast]
            congr 1
            funext zz
            simp
          obtain ⟨E, hE⟩ : ∃ E, 2 + L = E := ⟨_, rfl⟩
          obtain ⟨S, hS⟩ : ∃ S, strOfNums ((ys.drop 2).take L) = S := ⟨_, rfl⟩
          rw [hE, hS] at HEQ
          have hEi : 2 + (L : Int) = (E : Int) := by omega
          have hL2' : L = E - 2 := by omega
          have hst : ∀ (B : Option Addr) (dd : Nat), Row .u8 wr wr.heap.size B L ((ys.drop 2).take L) → (convert 30 9 (.slice B (E - 2) dd)).run Try.prog wr = .ok (.string S) wr := by
            intro B dd h
            rw [← hL2', ← hS]
            exact conv_row _ _ _ _ _ h
          have hst' : ∀ (B : Option Addr) (dd : Nat), Row .u8 wr wr.heap.size B L ((ys.drop 2).take L) → (convert 30 9 (.slice B (E - 2) dd)).run Try.prog wr.drew = .ok (.string S) wr.drew := by
            intro B dd h
            rw [← hL2', ← hS]
            exact conv_row _ _ _ _ wr.drew h
          have hrow2 : Row .u8 wr wr.heap.size (some ⟨bA, offA + 2, none⟩) L ((ys.drop 2).take L) := (rowI_take (rowI_drop hrow 2 (by omega)) L (by omega)).more hbel.size
          have OA1 : Hid ((wr.alloc (.cells #[.int .i64 x, .string S] 57)).drew.ownsRow w.heap.size 57 2 (.slice OA k oc) k (obs os)) := own2_keep hown ((Below.refl _ _).alloc (Nat.le_refl _) _).drew
          have RA1 : Hid (OL (wr.alloc (.cells #[.int .i64 x, .string S] 57)).drew (wr.alloc (.cells #[.int .i64 x, .string S] 57)).drew.heap.size (some ⟨wr.heap.size, 0, none⟩) 1 [(x, S)]) := built_row wr _ [.int .i64 x, .string S] _ (Below.refl _ _).drew
          have KA1 : Hid (Below w.heap.size w (wr.alloc (.cells #[.int .i64 x, .string S] 57)).drew) := (hbel.alloc hbel.size _).drew
          have HD8 : Hid (Bytes8 (ys.drop E)) := fun z hz => hy8 z (List.mem_of_mem_drop hz)
          have HOL := Lib.hid hol
          have HRR := Lib.hid hR
          have hm0 : 0 < m := by omega
          have wx : IntKind.i64.wrap x = x := IntWalk.i64_in _ (by omega)
          have KW1 : Hid (Below w.heap.size wr (wr.alloc (.cells #[.int .i64 x, .string S] 57)).drew) := ((Below.refl _ _).alloc hbel.size _).drew
          have hEm : E ≤ m := by omega
          have hE2 : (2 : Int) ≤ (E : Int) := by omega
          have hEd : (E : Int) ≤ (d : Int) := by omega
          have h3e : ¬ (m : Int) < (E : Int) := by omega
          have hme : m ≤ 1000 := by omega
          have hkN : k ≤ 255 := by omega
          by_cases hde : d = E
          · have hmd0 : m - E = 0 := by omega
            have HR0 : Hid (Row .u8 wr w.heap.size (some ⟨bA, offA, none⟩) 0 (ys.drop E)) := by
              have h : ys.drop E = [] := List.drop_eq_nil_of_le (by omega)
              show Row _ _ _ _ _ _
              rw [h]
              exact Row.nil _ _ _ _
            by_cases hd2 : d = 2
            · obtain rfl : L = 0 := by omega
              obtain rfl : E = 2 := by omega
              have hst1 := hst (some ⟨bA, offA, none⟩) 0 (by rw [List.take_zero]; exact Row.nil _ _ _ _)
              have hst2 := hst' (some ⟨bA, offA, none⟩) 0 (by rw [List.take_zero]; exact Row.nil _ _ _ _)
              subst hd2
              have HR1 : Hid (∀ W, Below w.heap.size wr W → Row .u8 W w.heap.size (some ⟨bA, offA, none⟩) 0 (ys.drop 2)) := fun W hW => HR0.out.below hW
              clear hmd0 hde
              clear hst hst' hrow2 hrow hy8 hown hol heq hbel hyl hR HI hcell hL hx0 hE hS hL2' HST e0 e1
              go_wp2
              go_region_law (first
                | (refine step_append_obs (.tmp 23) (.tmp 33) w.heap.size (.slice OA k oc) k os 1 [(x, S)] (k + 1) (os ++ [(x, S)]) rfl rfl (by omega) ⟨rfl, rfl, (by first | rfl | (simp [eval_put_tmp, size_put]; done) | (simp [eval_put_tmp, size_put]; simp [Act.eval]; done) | (simp [Act.eval]; done))⟩ OA1.out ⟨some ⟨wr.heap.size, 0, none⟩, 1, (by first | rfl | (simp [eval_put_tmp, size_put]; done) | (simp [eval_put_tmp, size_put]; simp [Act.eval]; done) | (simp [Act.eval]; done)), RA1.out⟩ KA1.out.size ?_
                   intro A6 c6 w6 hown6 hg6
                   have HO6 := Lib.hid hown6
                   have HBW6 := Lib.hid (below_append2 KW1.out OA1.out hg6 KA1.out.size)
                   have HB6 := Lib.hid (below_append2 KA1.out OA1.out hg6 KA1.out.size)
                   clear hown6 hg6))
              all_goals
                go_wp2
                go_roundw
                case rel =>
                  refine ⟨k + 1, 0, 0, some ⟨bA, offA, none⟩, A6, c6, by omega, by omega, by omega, rfl, by go_num, rfl, ys.drop 2, os ++ [(x, S)], HR1.out _ HBW6.out, HD8.out, HO6.out, by rw [List.length_append, HOL.out]; rfl, ?_, HB6.out⟩
                  rw [show N - (k + 1) = R by have := HRR.out; omega]
                  exact HEQ.out
                case measure => simp [intOf]; omega
            · have hst1 := hst _ (d - 2) hrow2
              have hst2 := hst' _ (d - 2) hrow2
              have HR1 : Hid (∀ W, Below w.heap.size wr W → Row .u8 W w.heap.size (some ⟨bA, offA, none⟩) 0 (ys.drop E)) := fun W hW => HR0.out.below hW
              subst hde
              clear hmd0
              clear hst hst' hrow2 hrow hy8 hown hol heq hbel hyl hR HI hcell hL hx0 hE hS hL2' HST e0 e1
              go_wp2
              go_region_law (first
                | (refine step_append_obs (.tmp 23) (.tmp 33) w.heap.size (.slice OA k oc) k os 1 [(x, S)] (k + 1) (os ++ [(x, S)]) rfl rfl (by omega) ⟨rfl, rfl, (by first | rfl | (simp [eval_put_tmp, size_put]; done) | (simp [eval_put_tmp, size_put]; simp [Act.eval]; done) | (simp [Act.eval]; done))⟩ OA1.out ⟨some ⟨wr.heap.size, 0, none⟩, 1, (by first | rfl | (simp [eval_put_tmp, size_put]; done) | (simp [eval_put_tmp, size_put]; simp [Act.eval]; done) | (simp [Act.eval]; done)), RA1.out⟩ KA1.out.size ?_
                   intro A6 c6 w6 hown6 hg6
                   have HO6 := Lib.hid hown6
                   have HBW6 := Lib.hid (below_append2 KW1.out OA1.out hg6 KA1.out.size)
                   have HB6 := Lib.hid (below_append2 KA1.out OA1.out hg6 KA1.out.size)
                   clear hown6 hg6))
              all_goals
                go_wp2
                go_roundw
                case rel =>
                  refine ⟨k + 1, 0, 0, some ⟨bA, offA, none⟩, A6, c6, by omega, by omega, by omega, rfl, by go_num, rfl, ys.drop d, os ++ [(x, S)], HR1.out _ HBW6.out, HD8.out, HO6.out, by rw [List.length_append, HOL.out]; rfl, ?_, HB6.out⟩
                  rw [show N - (k + 1) = R by have := HRR.out; omega]
                  exact HEQ.out
                case measure => simp [intOf]; omega
          · have hst1 := hst _ (d - 2) hrow2
            have hst2 := hst' _ (d - 2) hrow2
            have hd2 : ¬ d = 2 := by omega
            have HR0 : Hid (Row .u8 wr w.heap.size (some ⟨bA, offA + E, none⟩) (m - E) (ys.drop E)) := rowI_drop hrow E hEm
            have HR1 : Hid (∀ W, Below w.heap.size wr W → Row .u8 W w.heap.size (some ⟨bA, offA + E, none⟩) (m - E) (ys.drop E)) := fun W hW => HR0.out.below hW
            clear hst hst' hrow2 hrow hy8 hown hol heq hbel hyl hR HI hcell hL hx0 hE hS hL2' HST e0 e1
            go_wp2
            go_region_law (first
              | (refine step_append_obs (.tmp 23) (.tmp 33) w.heap.size (.slice OA k oc) k os 1 [(x, S)] (k + 1) (os ++ [(x, S)]) rfl rfl (by omega) ⟨rfl, rfl, (by first | rfl | (simp [eval_put_tmp, size_put]; done) | (simp [eval_put_tmp, size_put]; simp [Act.eval]; done) | (simp [Act.eval]; done))⟩ OA1.out ⟨some ⟨wr.heap.size, 0, none⟩, 1, (by first | rfl | (simp [eval_put_tmp, size_put]; done) | (simp [eval_put_tmp, size_put]; simp [Act.eval]; done) | (simp [Act.eval]; done)), RA1.out⟩ KA1.out.size ?_
                 intro A6 c6 w6 hown6 hg6
                 have HO6 := Lib.hid hown6
                 have HBW6 := Lib.hid (below_append2 KW1.out OA1.out hg6 KA1.out.size)
                 have HB6 := Lib.hid (below_append2 KA1.out OA1.out hg6 KA1.out.size)
                 clear hown6 hg6))
            all_goals
              go_wp2
              go_roundw
              case rel =>
                refine ⟨k + 1, m - E, d - E, some ⟨bA, offA + E, none⟩, A6, c6, by omega, by omega, by omega, rfl, by go_num, rfl, ys.drop E, os ++ [(x, S)], HR1.out _ HBW6.out, HD8.out, HO6.out, by rw [List.length_append, HOL.out]; rfl, ?_, HB6.out⟩
                rw [show N - (k + 1) = R by have := HRR.out; omega]
                exact HEQ.out
              case measure => simp [intOf]; omega
    · obtain rfl : N = k := by omega
      have hi : ¬ (N : Int) < (N : Int) := by omega
      have hd : decide (N < N) = false := by simp
      have HB := Lib.hid hbel
      have HOW := Lib.hid hown
      have HOL := Lib.hid hol
      rw [Nat.sub_self] at heq
      by_cases h0 : m = 0
      · subst h0
        have HF : Hid (parseO N zs = some os) := by
          show _ = _
          rw [heq]
          unfold parseO
          rw [if_pos hyl]
          simp
        clear hrow hy8 hown hol heq hbel hyl HI
        go_wp2
        go_ret2
        exact ⟨OA, N, oc, true, rfl, HB.out, fun os2 h => (by rw [HF.out] at h; injection h with h; subst h; exact ⟨rfl, HOL.out.symm, HOW.out⟩), fun h => (by rw [HF.out] at h; cases h)⟩
      · have HF : Hid (parseO N zs = none) := by
          show _ = _
          rw [heq]
          unfold parseO
          rw [if_neg (by omega)]
          rfl
        have hb0 : ((m : Int) == 0) = false := beq_eq_false_iff_ne.2 (by omega)
        clear hrow hy8 hown hol heq hbel hyl HI
        go_wp2
        go_ret2
        exact ⟨OA, N, oc, false, rfl, HB.out, fun os h => (by rw [HF.out] at h; cases h), fun _ => rfl⟩

theorem own2_low {w : World} {b : Nat} {e : TypeId} {v : Value} {n : Nat} {xs : List Value} (h : w.ownsRow b e 2 v n xs) (p : Addr) (hp : p.block < b) (u : Value) : (w.setCell p u).ownsRow b e 2 v n xs := by
  refine ⟨h.1, ?_⟩
  rcases h.2 with h0 | ⟨g, cap, cur, hv, hg, hh, rest⟩
  · exact .inl h0
  · exact .inr ⟨g, cap, cur, hv, hg, (Below.heap_setCell w p u g (by omega)).trans hh, rest⟩

end Go.Proofs.Ytielfekkonflfaa

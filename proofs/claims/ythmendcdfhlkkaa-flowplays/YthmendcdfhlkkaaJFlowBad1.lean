/- Joined: Adu1 Adu2 Adu3 Adu5 AduF. -/
import Derived.Test.YthmendcdfhlkkaaHeadRef
import Derived.Laws.CopyOwn
import Derived.Deep.RegionLaw
namespace Go.Proofs.Ythmendcdfhlkkaa
open Go.ChangeShapes Go.WideShapes Go.ChangeAt Go.RowKit
set_option linter.unusedVariables false
set_option linter.unusedSimpArgs false

theorem box3 (a0 a1 a2 : Value) (T : TypeId) (w w' : World) (h : Below (w.heap.size + 1) (w.alloc (.cells #[a0, a1, a2] T)) w') : WholeV w' w.heap.size T [a0, a1, a2] := by
  have h0 : WholeV (w.alloc (.cells #[a0, a1, a2] T)) w.heap.size T [a0, a1, a2] := heap_alloc_new w _
  exact (h.block w.heap.size (by omega)).trans h0
theorem below_alloc1 {w w' : World} {o : Obj} (h : Below (w.alloc o).heap.size (w.alloc o) w') : Below (w.heap.size + 1) (w.alloc o) w' := by
  rwa [show (w.alloc o).heap.size = w.heap.size + 1 by simp] at h
theorem below_alloc0 {w w' : World} {o : Obj} (h : Below (w.heap.size + 1) (w.alloc o) w') : Below w.heap.size w w' := ((Below.refl w.heap.size w).alloc (Nat.le_refl _) o).trans (h.mono (by omega))
theorem splice_behind (H cs : List Value) (k n : Nat) (z : Value) (hk : H.length = k) (hn : cs.length = n) : splice (H ++ List.replicate n z) k cs = H ++ cs := by
  unfold splice
  subst hk hn
  simp

/-- What a walk is told of a box of three cells, behind one more block, when it stores into it. -/
theorem box3_on {w : World} {g : Nat} {T : TypeId} {a0 a1 a2 : Value} (h : WholeV w g T [a0, a1, a2]) (o : Obj) :
    w.cell? ⟨g, 0, none⟩ = some a0 ∧ w.cell? ⟨g, 1, none⟩ = some a1 ∧ w.cell? ⟨g, 2, none⟩ = some a2 ∧ (w.alloc o).frozen? ⟨g, 0, none⟩ = false ∧ (∀ v, ((w.setCell ⟨g, 0, none⟩ v).alloc o).frozen? ⟨g, 1, none⟩ = false) ∧ ∀ v v', (((w.setCell ⟨g, 0, none⟩ v).setCell ⟨g, 1, none⟩ v').alloc o).frozen? ⟨g, 2, none⟩ = false := by
  have hk : ∀ {W : World} {vs : List Value} (i : Nat), WholeV W g T vs → (W.alloc o).frozen? ⟨g, i, none⟩ = false := fun {W vs} i hW => (hW.below ((Below.refl W.heap.size W).alloc (Nat.le_refl _) o) hW.lt : WholeV _ _ _ _).frozen i
  exact ⟨h.cell 0, h.cell 1, h.cell 2, hk 0 h, fun v => hk 1 (h.set 0 v), fun v v' => hk 2 ((h.set 0 v).set 1 v')⟩
/-- Three stores into such a box. -/
theorem set3 {w w0 : World} {B g : Nat} {T : TypeId} {a0 a1 a2 : Value} (h : WholeV w g T [a0, a1, a2]) (hb : Below B w0 w) (hg : B ≤ g) (b0 b1 b2 : Value) (o : Obj) :
    WholeV ((((w.setCell ⟨g, 0, none⟩ b0).setCell ⟨g, 1, none⟩ b1).setCell ⟨g, 2, none⟩ b2).alloc o) g T [b0, b1, b2] ∧ Below B w0 ((((w.setCell ⟨g, 0, none⟩ b0).setCell ⟨g, 1, none⟩ b1).setCell ⟨g, 2, none⟩ b2).alloc o) := by
  have h1 := ((h.set 0 b0).set 1 b1).set 2 b2
  have hb1 := ((hb.setCell (p := ⟨g, 0, none⟩) hg b0).setCell (p := ⟨g, 1, none⟩) hg b1).setCell (p := ⟨g, 2, none⟩) hg b2
  exact ⟨h1.below ((Below.refl _ _).alloc (Nat.le_refl _) o) h1.lt, hb1.alloc (by have := h.lt; simp; omega) o⟩

section
variable (A : Option Addr) (n c : Nat) (zs : List Int) (w : World)

set_option maxRecDepth 100000 in
set_option maxHeartbeats 1000000 in
theorem acut_err (E : Int) (hr : Row .u8 w w.heap.size A n zs) (hx : Bytes8 zs) (hn : n ≤ 100000) (he : hE zs n = E) (h0 : E ≠ 0) :
    Calls Try.prog 128 #[.slice A n c] w fun e w' => e = .returned (.tuple #[.agg #[.int .i64 0, .int .i64 0, .slice none 0 0], .int .i64 0, .int .i64 E]) ∧ Below w.heap.size w w' := by
  have C1 := Lib.hid (fun W (hb : Below w.heap.size w W) => hget_any A n c zs W ((hr.below hb).more hb.size) hx hn)
  rw [hV_err he h0] at C1
  have hE0 : (E != 0) = true := by simpa using h0
  clear hr hx he
  go_enter Try.func128, Try.ntmps128
  go_wp2_with (first
    | (go_at_call 130
       refine (C1.out _ ((Below.refl _ _).alloc (Nat.le_refl _) _)).mono ?_
       rintro e w2 ⟨rfl, hb2⟩
       replace hb2 := below_alloc1 hb2
       have HX2 := Lib.hid (box3 _ _ _ _ _ _ hb2)
       have HB2 := Lib.hid (below_alloc0 hb2)
       have hlt2 : w.heap.size < w2.heap.size := HX2.out.lt
       obtain ⟨hc0, hc1, hc2, hf0, hf1, hf2⟩ := box3_on HX2.out (.cells #[.int .i64 0, .int .i64 0, .int .i64 0] 167)
       clear hb2))
  obtain ⟨h9, hb9⟩ := set3 HX2.out HB2.out (Nat.le_refl _) (.int .i64 0) (.int .i64 0) (.slice none 0 0) (.cells #[.int .i64 0, .int .i64 0, .int .i64 0] 167)
  have hz9 := h9.lt
  have q0 := h9.cell 0
  have q1 := h9.cell 1
  have q2 := h9.cell 2
  exact bodyPost_ret (v := .tuple #[.agg #[.int .i64 0, .int .i64 0, .slice none 0 0], .int .i64 0, .int .i64 E]) (by simp [results, Try.results128, go_sem, hz9, q0, q1, q2]) rfl ⟨rfl, hb9⟩

set_option maxRecDepth 100000 in
set_option maxHeartbeats 1000000 in
theorem acut_more (hr : Row .u8 w w.heap.size A n zs) (hx : Bytes8 zs) (hn : n ≤ 100000) (he : hE zs n = 0) (h0 : (n : Int) < 6 + wordAt zs 4) :
    Calls Try.prog 128 #[.slice A n c] w fun e w' => e = .returned (.tuple #[.agg #[.int .i64 0, .int .i64 0, .slice none 0 0], .int .i64 0, .int .i64 3]) ∧ Below w.heap.size w w' := by
  have C1 := Lib.hid (fun W (hb : Below w.heap.size w W) => hget_any A n c zs W ((hr.below hb).more hb.size) hx hn)
  rw [hV_ok he] at C1
  obtain ⟨b1, b2⟩ := wordAt_bounds hx 4
  obtain ⟨T, hT⟩ : ∃ T, wordAt zs 0 = T := ⟨_, rfl⟩
  obtain ⟨L, hL⟩ : ∃ L, wordAt zs 4 = L := ⟨_, rfl⟩
  obtain ⟨U, hU⟩ : ∃ U, zs.getD 6 0 = U := ⟨_, rfl⟩
  rw [hT, hL, hU] at C1
  rw [hL] at h0 b1 b2
  clear hr hx he hT hL hU
  go_enter Try.func128, Try.ntmps128
  go_wp2_with (first
    | (go_at_call 130
       refine (C1.out _ ((Below.refl _ _).alloc (Nat.le_refl _) _)).mono ?_
       rintro e w2 ⟨rfl, hb2⟩
       replace hb2 := below_alloc1 hb2
       have HX2 := Lib.hid (box3 _ _ _ _ _ _ hb2)
       have HB2 := Lib.hid (below_alloc0 hb2)
       have hlt2 : w.heap.size < w2.heap.size := HX2.out.lt
       obtain ⟨hc0, hc1, hc2, hf0, hf1, hf2⟩ := box3_on HX2.out (.cells #[.int .i64 T, .int .i64 L, .int .i64 U] 167)
       clear hb2))
  obtain ⟨h9, hb9⟩ := set3 HX2.out HB2.out (Nat.le_refl _) (.int .i64 0) (.int .i64 0) (.slice none 0 0) (.cells #[.int .i64 T, .int .i64 L, .int .i64 U] 167)
  have hz9 := h9.lt
  have q0 := h9.cell 0
  have q1 := h9.cell 1
  have q2 := h9.cell 2
  exact bodyPost_ret (v := .tuple #[.agg #[.int .i64 0, .int .i64 0, .slice none 0 0], .int .i64 0, .int .i64 3]) (by simp [results, Try.results128, go_sem, hz9, q0, q1, q2]) rfl ⟨rfl, hb9⟩

set_option maxRecDepth 100000 in
set_option maxHeartbeats 1000000 in
theorem rcut_err (E : Int) (hr : Row .u8 w w.heap.size A n zs) (hx : Bytes8 zs) (hn : n ≤ 100000) (he : hE zs n = E) (h0 : E ≠ 0) :
    Calls Try.prog 77 #[.slice A n c] w fun e w' => e = .returned (.tuple #[.agg #[.int .i64 0, .int .i64 0, .slice none 0 0], .int .i64 0, .int .i64 E]) ∧ Below w.heap.size w w' := by
  have C1 := Lib.hid (fun W (hb : Below w.heap.size w W) => rhead_any A n c zs W ((hr.below hb).more hb.size) hx hn)
  rw [hV_err he h0] at C1
  have hE0 : (E != 0) = true := by simpa using h0
  clear hr hx he
  go_enter Try.func77, Try.ntmps77
  go_wp2_with (first
    | (go_at_call 118
       refine (C1.out _ ((Below.refl _ _).alloc (Nat.le_refl _) _)).mono ?_
       rintro e w2 ⟨rfl, hb2⟩
       replace hb2 := below_alloc1 hb2
       have HX2 := Lib.hid (box3 _ _ _ _ _ _ hb2)
       have HB2 := Lib.hid (below_alloc0 hb2)
       have hlt2 : w.heap.size < w2.heap.size := HX2.out.lt
       obtain ⟨hc0, hc1, hc2, hf0, hf1, hf2⟩ := box3_on HX2.out (.cells #[.int .i64 0, .int .i64 0, .int .i64 0] 136)
       clear hb2))
  obtain ⟨h9, hb9⟩ := set3 HX2.out HB2.out (Nat.le_refl _) (.int .i64 0) (.int .i64 0) (.slice none 0 0) (.cells #[.int .i64 0, .int .i64 0, .int .i64 0] 136)
  have hz9 := h9.lt
  have q0 := h9.cell 0
  have q1 := h9.cell 1
  have q2 := h9.cell 2
  exact bodyPost_ret (v := .tuple #[.agg #[.int .i64 0, .int .i64 0, .slice none 0 0], .int .i64 0, .int .i64 E]) (by simp [results, Try.results77, go_sem, hz9, q0, q1, q2]) rfl ⟨rfl, hb9⟩

set_option maxRecDepth 100000 in
set_option maxHeartbeats 1000000 in
theorem rcut_more (hr : Row .u8 w w.heap.size A n zs) (hx : Bytes8 zs) (hn : n ≤ 100000) (he : hE zs n = 0) (h0 : (n : Int) < 6 + wordAt zs 4) :
    Calls Try.prog 77 #[.slice A n c] w fun e w' => e = .returned (.tuple #[.agg #[.int .i64 0, .int .i64 0, .slice none 0 0], .int .i64 0, .int .i64 3]) ∧ Below w.heap.size w w' := by
  have C1 := Lib.hid (fun W (hb : Below w.heap.size w W) => rhead_any A n c zs W ((hr.below hb).more hb.size) hx hn)
  rw [hV_ok he] at C1
  obtain ⟨b1, b2⟩ := wordAt_bounds hx 4
  obtain ⟨T, hT⟩ : ∃ T, wordAt zs 0 = T := ⟨_, rfl⟩
  obtain ⟨L, hL⟩ : ∃ L, wordAt zs 4 = L := ⟨_, rfl⟩
  obtain ⟨U, hU⟩ : ∃ U, zs.getD 6 0 = U := ⟨_, rfl⟩
  rw [hT, hL, hU] at C1
  rw [hL] at h0 b1 b2
  clear hr hx he hT hL hU
  go_enter Try.func77, Try.ntmps77
  go_wp2_with (first
    | (go_at_call 118
       refine (C1.out _ ((Below.refl _ _).alloc (Nat.le_refl _) _)).mono ?_
       rintro e w2 ⟨rfl, hb2⟩
       replace hb2 := below_alloc1 hb2
       have HX2 := Lib.hid (box3 _ _ _ _ _ _ hb2)
       have HB2 := Lib.hid (below_alloc0 hb2)
       have hlt2 : w.heap.size < w2.heap.size := HX2.out.lt
       obtain ⟨hc0, hc1, hc2, hf0, hf1, hf2⟩ := box3_on HX2.out (.cells #[.int .i64 T, .int .i64 L, .int .i64 U] 136)
       clear hb2))
  obtain ⟨h9, hb9⟩ := set3 HX2.out HB2.out (Nat.le_refl _) (.int .i64 0) (.int .i64 0) (.slice none 0 0) (.cells #[.int .i64 T, .int .i64 L, .int .i64 U] 136)
  have hz9 := h9.lt
  have q0 := h9.cell 0
  have q1 := h9.cell 1
  have q2 := h9.cell 2
  exact bodyPost_ret (v := .tuple #[.agg #[.int .i64 0, .int .i64 0, .slice none 0 0], .int .i64 0, .int .i64 3]) (by simp [results, Try.results77, go_sem, hz9, q0, q1, q2]) rfl ⟨rfl, hb9⟩

end

theorem hE_good {zs : List Int} {n : Nat} (h : hE zs n = 0) : 7 ≤ n ∧ hGood zs := by
  unfold hE at h
  split at h
  · cases h
  · split at h
    · split at h
      · cases h
      · rename_i h1 h2 h3; exact ⟨by omega, h2⟩
    · cases h

theorem heap2_new (w : World) (o : Obj) (n : Nat) (z : Value) (T : TypeId) : ((w.alloc o).alloc (.cells (Array.replicate n z) T)).heap[w.heap.size + 1]? = some (.cells (List.replicate n z).toArray T (0, 0)) := by
  have h := heap_alloc_new (w.alloc o) (.cells (Array.replicate n z) T)
  rw [show (w.alloc o).heap.size = w.heap.size + 1 by simp] at h
  rw [List.toArray_replicate]
  exact h
theorem WholeV.far {w : World} {g k : Nat} {t : TypeId} {vs : List Value} (h : WholeV w g t vs) (hk : g ≠ k) (i : Nat) (v : Value) : WholeV (w.setCell ⟨k, i, none⟩ v) g t vs := (Below.heap_setCell w ⟨k, i, none⟩ v g hk).trans h
theorem WholeV.ints' {k : IntKind} {w : World} {g : Nat} {t : TypeId} {zs : List Int} (h : WholeV w g t (zs.map (Value.int k))) : Whole k w g t zs := h
theorem below2 (w : World) (o p : Obj) : Below (w.heap.size + 1) (w.alloc o) ((w.alloc o).alloc p) := (Below.refl _ _).alloc (by simp) _

section
variable (A : Option Addr) (n c : Nat) (zs : List Int) (w : World)

set_option maxRecDepth 100000 in
set_option maxHeartbeats 1000000 in
theorem acut_ok (m : Nat) (hr : Row .u8 w w.heap.size A n zs) (hx : Bytes8 zs) (hn : n ≤ 100000) (hc : n ≤ c) (he : hE zs n = 0) (hm : wordAt zs 4 = (m : Int) + 1) (hle : 7 + m ≤ n) :
    Calls Try.prog 128 #[.slice A n c] w fun e w' => ∃ g, e = .returned (.tuple #[.agg #[.int .i64 (wordAt zs 0), .int .i64 (zs.getD 6 0), .slice (some ⟨g, 0, none⟩) m m], .int .i64 ((7 + m : Nat) : Int), .int .i64 0]) ∧ w.heap.size < g ∧ Whole .u8 w' g 5 ((zs.drop 7).take m) ∧ Below w.heap.size w w' := by
  have C1 := Lib.hid (fun W (hb : Below w.heap.size w W) => hget_any A n c zs W ((hr.below hb).more hb.size) hx hn)
  rw [hV_ok he] at C1
  obtain ⟨_, _, g1, g2⟩ := hE_good he
  obtain ⟨T, hT⟩ : ∃ T, wordAt zs 0 = T := ⟨_, rfl⟩
  obtain ⟨L, hL⟩ : ∃ L, wordAt zs 4 = L := ⟨_, rfl⟩
  obtain ⟨U, hU⟩ : ∃ U, zs.getD 6 0 = U := ⟨_, rfl⟩
  obtain ⟨K, hK⟩ : ∃ K : Nat, 7 + m = K := ⟨_, rfl⟩
  rw [hT, hU, hK]
  rw [hT, hL, hU] at C1
  rw [hL] at hm g1 g2
  rw [hK] at hle
  have hk1 : 6 + L = (K : Int) := by omega
  have hk2 : (K : Int) - 7 = (m : Int) := by omega
  have hk3 : K - 7 = m := by omega
  have hk4 : ¬ (n : Int) < (K : Int) := by omega
  have hk5 : (7 : Int) ≤ (K : Int) := by omega
  have hk6 : (K : Int) ≤ (c : Int) := by omega
  have hk7 : ¬ c = 7 := by omega
  have hmk := make_bytes m (by omega)
  obtain ⟨b, off, hA, hb, hcell⟩ := hr.2 (by omega)
  subst hA
  obtain ⟨cs, hcs⟩ : ∃ cs, cs = ((zs.drop 7).take m).map (Value.int .u8) := ⟨_, rfl⟩
  have HC := Lib.hid hcs
  have HL : Hid (cs.length = m) := by
    have := hr.1
    rw [hcs, List.length_map, List.length_take, List.length_drop]
    show _ = _
    omega
  have H1 : Hid (∀ u ∈ cs, u.oneCell' = true) := by rw [hcs]; exact one_cells _ _
  have HS : Hid (∀ j v, cs[j]? = some v → w.cell? (Addr.add ⟨b, off + 7, none⟩ j) = some v) := by
    intro j v hv
    have hj : j < m := by
      have := (List.getElem?_eq_some_iff.1 hv).1
      rw [HL.out] at this; exact this
    rw [add_none, show off + 7 + j = off + (7 + j) by omega, hcell (7 + j) (by omega), ← hv, hcs]
    simp only [List.getElem?_map, List.getElem?_take, hj, if_true, List.getElem?_drop, List.getD_eq_getElem?_getD]
    have hl := hr.1
    rw [List.getElem?_eq_getElem (show 7 + j < zs.length by omega)]
    rfl
  clear hr hx he hT hU hL hK hcell hcs hm
  go_enter Try.func128, Try.ntmps128
  go_wp2_with (first
    | (go_at_call 130
       refine (C1.out _ ((Below.refl _ _).alloc (Nat.le_refl _) _)).mono ?_
       rintro e w2 ⟨rfl, hb2⟩
       replace hb2 := below_alloc1 hb2
       have HX2 := Lib.hid (box3 _ _ _ _ _ _ hb2)
       have HB2 := Lib.hid (below_alloc0 hb2)
       have hlt2 : w.heap.size < w2.heap.size := HX2.out.lt
       have HSO : Hid (∀ p j v, cs[j]? = some v → ((w2.alloc (.cells #[.int .i64 T, .int .i64 L, .int .i64 U] 167)).alloc p).cell? (Addr.add ⟨b, off + 7, none⟩ j) = some v) := by
         intro p j v hv
         have h0 := HS.out j v hv
         rw [add_none] at h0 ⊢
         rw [(below_alloc0 (below2 w2 _ p)).cell (show b < w2.heap.size by omega), HB2.out.cell (show b < w.heap.size from hb)]
         exact h0
       clear hb2)
    | (with_reducible refine wpList_copy_splice (o := ⟨some 33, _, _, _, _, _⟩) rfl _ _ 22 22 rfl 5 Try.underlying22 (by kernel_rfl) _ _ m m m (c - 7) rfl rfl (w2.heap.size + 1) 0 (List.replicate m (Value.int .u8 0)) 5 (heap2_new _ _ _ _ _) cs (by rw [HL.out]; exact (Nat.min_self _).symm) (fun h0 => ⟨rfl, ⟨b, off + 7, none⟩, rfl, HSO.out _⟩) (by rw [List.length_replicate, HL.out]; omega) H1.out (w2.heap.size + 1) (w2.alloc (.cells #[.int .i64 T, .int .i64 L, .int .i64 U] 167)) (below2 _ _ _) (Nat.le_refl _) ?_
       intro w3 HG hB
       have HW3 : Hid (WholeV w3 (w2.heap.size + 1) 5 cs) := by
         have hg0 := HG.out
         have := splice_any m 0 cs (.int .u8 0) HL.out
         rw [Nat.add_zero] at this
         rw [this, List.replicate_zero, List.append_nil] at hg0
         exact hg0
       have HB3 := Lib.hid hB
       have HX3 := Lib.hid (HX2.out.below (below_alloc0 hB) hlt2)
       have HH3 := Lib.hid (box3 _ _ _ _ _ _ hB)
       have hx0 := HX3.out.cell 0
       have hx1 := HX3.out.cell 1
       have hx2 := HX3.out.cell 2
       have hf0 := HX3.out.frozen 0
       have hf1 := HX3.out.frozen 1
       have hf2 := HX3.out.frozen 2
       have hh0 := HH3.out.cell 0
       have hh1 := HH3.out.cell 1
       have hh2 := HH3.out.cell 2
       have hlt3 : w2.heap.size < w3.heap.size := HH3.out.lt
       clear hB HG))
  have h9 := ((HX3.out.set 0 (.int .i64 T)).set 1 (.int .i64 U)).set 2 (.slice (some ⟨w2.heap.size + 1, 0, none⟩) m m)
  have hb9 := (((HB2.out.trans ((below_alloc0 HB3.out).mono HB2.out.size)).setCell (p := ⟨w.heap.size, 0, none⟩) (Nat.le_refl _) (.int .i64 T)).setCell (p := ⟨w.heap.size, 1, none⟩) (Nat.le_refl _) (.int .i64 U)).setCell (p := ⟨w.heap.size, 2, none⟩) (Nat.le_refl _) (.slice (some ⟨w2.heap.size + 1, 0, none⟩) m m)
  have hne : w2.heap.size + 1 ≠ w.heap.size := by omega
  have hw9 := ((HW3.out.far hne 0 (.int .i64 T)).far hne 1 (.int .i64 U)).far hne 2 (.slice (some ⟨w2.heap.size + 1, 0, none⟩) m m)
  have hz9 := h9.lt
  have q0 := h9.cell 0
  have q1 := h9.cell 1
  have q2 := h9.cell 2
  rw [HC.out] at hw9
  have hw8 := WholeV.ints' hw9
  exact bodyPost_ret (v := .tuple #[.agg #[.int .i64 T, .int .i64 U, .slice (some ⟨w2.heap.size + 1, 0, none⟩) m m], .int .i64 K, .int .i64 0]) (by simp [results, Try.results128, go_sem, hz9, q0, q1, q2]) rfl ⟨w2.heap.size + 1, rfl, by omega, hw8, hb9⟩

end

set_option maxRecDepth 100000 in
set_option maxHeartbeats 1000000 in
theorem rframe_yes (A : Option Addr) (n c : Nat) (zs : List Int) (t u : Int) (w : World) (hr : Row .u8 w w.heap.size A n zs) (h : hFits t ((n : Int) + 1) u) :
    Calls Try.prog 38 #[.agg #[.int .i64 t, .int .i64 u, .slice A n c]] w fun e w' => ∃ B d, e = .returned (.tuple #[.slice B (7 + n) d, .int .i64 0]) ∧ w'.ownsRow w.heap.size 5 1 (.slice B (7 + n) d) (7 + n) ((headOf t ((n : Int) + 1) u ++ zs).map (Value.int .u8)) ∧ Below w.heap.size w w' := by
  obtain ⟨⟨t0, t1⟩, ⟨l0, l1⟩, u0, u1⟩ := id h
  have hn1 : ¬ (n : Int) < 1 := by omega
  have hn2 : ¬ (253 : Int) < (n : Int) := by omega
  have hn3 : n ≤ 253 := by omega
  have C1 := Lib.hid (fun W => rput_yes t ((n : Int) + 1) u W h)
  have HR := Lib.hid (fun W (hb : Below w.heap.size w W) => ((hr.below hb).more hb.size).v)
  clear hr h t0 t1 l0 l1 u0 u1
  go_enter Try.func38, Try.ntmps38
  go_wp2_with (first
    | (go_at_call 84
       refine (C1.out _).mono ?_
       rintro e w2 ⟨g2, c2, rfl, ho, hb2⟩
       replace hb2 := below_alloc1 hb2
       have HX2 := Lib.hid (box3 _ _ _ _ _ _ hb2)
       have HB2 := Lib.hid (below_alloc0 hb2)
       have HO2 := Lib.hid (own_mono (b' := w.heap.size) ho (by simp))
       have hx2 : w2.cell? ⟨w.heap.size, 2, none⟩ = some (.slice A n c) := HX2.out.cell 2
       have hlt2 : w.heap.size < w2.heap.size := HX2.out.lt
       clear ho hb2)
    | (at_builtin
       refine wpList_append_row _ (o := ⟨some 35, _, _, _, _, _⟩) rfl (.tmp 32) (.tmp 34) 22 rfl w.heap.size 5 (.int .u8 0) 1 Try.underlying22 info5 rfl (.slice (some ⟨g2, 0, none⟩) 7 c2) 7 _ rfl HO2.out _ A n c _ rfl (HR.out _ HB2.out) (one_cells _ _) (by omega) (by omega) HB2.out.size ?_
       intro v3 w3 hown hg hat
       rw [← List.map_append] at hown
       obtain ⟨B, d, rfl⟩ := own_slice hown
       have HO3 := Lib.hid hown
       have HB3 := Lib.hid (below_append HB2.out HO2.out hg HB2.out.size)
       clear hown hg hat))
  go_ret2
  exact ⟨B, d, rfl, HO3.out, HB3.out⟩

set_option maxRecDepth 100000 in
set_option maxHeartbeats 1000000 in
theorem rframe_no (A : Option Addr) (n c : Nat) (t u : Int) (w : World) (hn : n ≤ 1000000) (h : ¬ hFits t ((n : Int) + 1) u) :
    Calls Try.prog 38 #[.agg #[.int .i64 t, .int .i64 u, .slice A n c]] w fun e w' => e = .returned (.tuple #[.slice none 0 0, .int .i64 1]) ∧ Below w.heap.size w w' := by
  have C1 := Lib.hid (fun W => rput_no t ((n : Int) + 1) u W h)
  clear h
  by_cases hn1 : (n : Int) < 1
  · go_enter Try.func38, Try.ntmps38
    go_wp2
    go_ret2
    exact ⟨rfl, (Below.refl _ _).alloc (Nat.le_refl _) _⟩
  · by_cases hn2 : (253 : Int) < (n : Int)
    · have hn3 : 1 ≤ (n : Int) := by omega
      go_enter Try.func38, Try.ntmps38
      go_wp2
      go_ret2
      exact ⟨rfl, (Below.refl _ _).alloc (Nat.le_refl _) _⟩
    · go_enter Try.func38, Try.ntmps38
      go_wp2_with (first
        | (go_at_call 84
           refine (C1.out _).mono ?_
           rintro e w2 ⟨rfl, hb2⟩
           have HB2 := Lib.hid (below_alloc0 (below_alloc1 hb2))
           clear hb2))
      go_ret2
      exact ⟨rfl, HB2.out⟩

theorem wa_take (zs : List Int) (k i : Nat) (h : i + 1 < k) : wordAt (zs.take k) i = wordAt zs i := by
  unfold wordAt
  simp [List.getD_eq_getElem?_getD, List.getElem?_take, h, show i < k by omega]
theorem frame_words (t l u : Int) (zs : List Int) (h : hFits t l u) : wordAt (headOf t l u ++ zs) 0 = t ∧ wordAt (headOf t l u ++ zs) 2 = 0 ∧ wordAt (headOf t l u ++ zs) 4 = l ∧ (headOf t l u ++ zs).getD 6 0 = u := by
  obtain ⟨⟨t0, t1⟩, ⟨l0, l1⟩, u0, u1⟩ := h
  refine ⟨?_, ?_, ?_, ?_⟩ <;> simp [wordAt, headOf, List.getD] <;> omega
theorem frame_bytes (t l u : Int) (zs : List Int) (h : hFits t l u) (hx : Bytes8 zs) : Bytes8 (headOf t l u ++ zs) := by
  obtain ⟨⟨t0, t1⟩, ⟨l0, l1⟩, u0, u1⟩ := h
  intro x hm
  rcases List.mem_append.1 hm with hm | hm
  · simp [headOf] at hm; omega
  · exact hx x hm
theorem take_bytes8 {zs : List Int} (h : Bytes8 zs) (k : Nat) : Bytes8 (zs.take k) := fun x hm => h x (List.mem_of_mem_take hm)
theorem hE_of (Y : List Int) (n : Nat) (l : Int) (h2 : 6 ≤ n → wordAt Y 2 = 0) (h4 : 6 ≤ n → wordAt Y 4 = l) (l0 : 2 ≤ l) (l1 : l ≤ 254) : hE Y n = if n < 7 then 3 else 0 := by
  unfold hE
  by_cases h6 : n < 6
  · rw [if_pos h6, if_pos (by omega)]
  · rw [if_neg h6, if_pos (show hGood Y from ⟨h2 (by omega), by rw [h4 (by omega)]; exact ⟨l0, l1⟩⟩)]
    by_cases h7 : n = 6
    · rw [if_pos h7, if_pos (by omega)]
    · rw [if_neg h7, if_neg (by omega)]

/-- A front of a frame. -/
theorem acut_front (t u : Int) (zs : List Int) (n k c : Nat) (A : Option Addr) (W : World) (hz : zs.length = n) (hx : Bytes8 zs) (h : hFits t (1 + n) u) (hk : k < 7 + n) (hr : Row .u8 W W.heap.size A k ((headOf t (1 + n) u ++ zs).take k)) :
    Calls Try.prog 128 #[.slice A k c] W fun e w' => e = .returned (.tuple #[.agg #[.int .i64 0, .int .i64 0, .slice none 0 0], .int .i64 0, .int .i64 3]) ∧ Below W.heap.size W w' := by
  obtain ⟨f0, f2, f4, f6⟩ := frame_words t (1 + n) u zs h
  have hl := h.2.1
  have he := hE_of ((headOf t (1 + n) u ++ zs).take k) k (1 + n) (fun h6 => by rw [wa_take _ _ _ (by omega)]; exact f2) (fun h6 => by rw [wa_take _ _ _ (by omega)]; exact f4) hl.1 hl.2
  have hb := take_bytes8 (frame_bytes t (1 + n) u zs h hx) k
  by_cases h7 : k < 7
  · rw [if_pos h7] at he
    exact acut_err A k c _ W 3 hr hb (by omega) he (by decide)
  · rw [if_neg h7] at he
    exact acut_more A k c _ W hr hb (by omega) he (by rw [wa_take _ _ _ (by omega), f4]; omega)

/-- A frame, with whatever behind it. -/
theorem acut_frame (t u : Int) (zs ys : List Int) (n m c : Nat) (A : Option Addr) (W : World) (hz : zs.length = n) (hx : Bytes8 zs) (hy : Bytes8 ys) (h : hFits t (1 + n) u) (hm : 7 + n + ys.length = m) (hm2 : m ≤ 100000) (hc : m ≤ c) (hr : Row .u8 W W.heap.size A m (headOf t (1 + n) u ++ zs ++ ys)) :
    Calls Try.prog 128 #[.slice A m c] W fun e w' => ∃ g, e = .returned (.tuple #[.agg #[.int .i64 t, .int .i64 u, .slice (some ⟨g, 0, none⟩) n n], .int .i64 ((7 + n : Nat) : Int), .int .i64 0]) ∧ W.heap.size < g ∧ Whole .u8 w' g 5 zs ∧ Below W.heap.size W w' := by
  obtain ⟨f0, f2, f4, f6⟩ := frame_words t (1 + n) u (zs ++ ys) h
  have hb := frame_bytes t (1 + n) u (zs ++ ys) h (fun x hm => by rcases List.mem_append.1 hm with hm | hm; exact hx x hm; exact hy x hm)
  rw [← List.append_assoc] at f0 f2 f4 f6 hb
  have he := hE_of (headOf t (1 + n) u ++ zs ++ ys) m (1 + n) (fun _ => f2) (fun _ => f4) h.2.1.1 h.2.1.2
  rw [if_neg (by omega)] at he
  have := acut_ok A m c _ W n hr hb hm2 hc he (by rw [f4]; omega) (by omega)
  rw [f0, f6] at this
  have hd : ((headOf t (1 + n) u ++ zs ++ ys).drop 7).take n = zs := by
    have e : (headOf t (1 + n) u ++ zs ++ ys).drop 7 = zs ++ ys := by rw [List.append_assoc]; rfl
    rw [e, ← hz, List.take_left]
  rwa [hd] at this

end Go.Proofs.Ythmendcdfhlkkaa

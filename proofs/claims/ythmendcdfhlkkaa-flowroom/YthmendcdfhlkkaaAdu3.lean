/- Package adu and the document's frames: Cut of a whole frame; the document's FrameBytes. -/
import Derived.Test.YthmendcdfhlkkaaAdu2
namespace Go.Proofs.Ythmendcdfhlkkaa
open Go.ChangeShapes Go.WideShapes Go.ChangeAt Go.RowKit
set_option linter.unusedVariables false
set_option linter.unusedSimpArgs false

theorem hE_good {zs : List Int} {n : Nat} (h : hE zs n = 0) : 7 ≤ n ∧ hGood zs := by
  unfold hE at h
  split at h
  · cases h
  · split at h
    · split at h
      · cases h
      · rename_i h1 h2 h3; exact ⟨by omega, h2⟩
    · cases h

theorem heap2_new (w : World) (o : Obj) (n : Nat) (z : Value) (T : TypeId) : ((w.alloc o).alloc (.cells (Array.replicate n z) T)).heap[w.heap.size + 1]? = some (.cells (List.replicate n z).toArray T (0, 0)) := by
  have h := heap_alloc_new (w.alloc o) (.cells (Array.replicate n z) T)
  rw [show (w.alloc o).heap.size = w.heap.size + 1 by simp] at h
  rw [List.toArray_replicate]
  exact h
theorem WholeV.far {w : World} {g k : Nat} {t : TypeId} {vs : List Value} (h : WholeV w g t vs) (hk : g ≠ k) (i : Nat) (v : Value) : WholeV (w.setCell ⟨k, i, none⟩ v) g t vs := (Below.heap_setCell w ⟨k, i, none⟩ v g hk).trans h
theorem WholeV.ints' {k : IntKind} {w : World} {g : Nat} {t : TypeId} {zs : List Int} (h : WholeV w g t (zs.map (Value.int k))) : Whole k w g t zs := h
theorem below2 (w : World) (o p : Obj) : Below (w.heap.size + 1) (w.alloc o) ((w.alloc o).alloc p) := (Below.refl _ _).alloc (by simp) _

section
variable (A : Option Addr) (n c : Nat) (zs : List Int) (w : World)

set_option maxRecDepth 100000 in
set_option maxHeartbeats 1000000 in
theorem acut_ok (m : Nat) (hr : Row .u8 w w.heap.size A n zs) (hx : Bytes8 zs) (hn : n ≤ 100000) (hc : n ≤ c) (he : hE zs n = 0) (hm : wordAt zs 4 = (m : Int) + 1) (hle : 7 + m ≤ n) :
    Calls Try.prog 128 #[.slice A n c] w fun e w' => ∃ g, e = .returned (.tuple #[.agg #[.int .i64 (wordAt zs 0), .int .i64 (zs.getD 6 0), .slice (some ⟨g, 0, none⟩) m m], .int .i64 ((7 + m : Nat) : Int), .int .i64 0]) ∧ w.heap.size < g ∧ Whole .u8 w' g 5 ((zs.drop 7).take m) ∧ Below w.heap.size w w' := by
  have C1 := Lib.hid (fun W (hb : Below w.heap.size w W) => hget_any A n c zs W ((hr.below hb).more hb.size) hx hn)
  rw [hV_ok he] at C1
  obtain ⟨_, _, g1, g2⟩ := hE_good he
  obtain ⟨T, hT⟩ : ∃ T, wordAt zs 0 = T := ⟨_, rfl⟩
  obtain ⟨L, hL⟩ : ∃ L, wordAt zs 4 = L := ⟨_, rfl⟩
  obtain ⟨U, hU⟩ : ∃ U, zs.getD 6 0 = U := ⟨_, rfl⟩
  obtain ⟨K, hK⟩ : ∃ K : Nat, 7 + m = K := ⟨_, rfl⟩
  rw [hT, hU, hK]
  rw [hT, hL, hU] at C1
  rw [hL] at hm g1 g2
  rw [hK] at hle
  have hk1 : 6 + L = (K : Int) := by omega
  have hk2 : (K : Int) - 7 = (m : Int) := by omega
  have hk3 : K - 7 = m := by omega
  have hk4 : ¬ (n : Int) < (K : Int) := by omega
  have hk5 : (7 : Int) ≤ (K : Int) := by omega
  have hk6 : (K : Int) ≤ (c : Int) := by omega
  have hk7 : ¬ c = 7 := by omega
  have hmk := make_bytes m (by omega)
  obtain ⟨b, off, hA, hb, hcell⟩ := hr.2 (by omega)
  subst hA
  obtain ⟨cs, hcs⟩ : ∃ cs, cs = ((zs.drop 7).take m).map (Value.int .u8) := ⟨_, rfl⟩
  have HC := Lib.hid hcs
  have HL : Hid (cs.length = m) := by
    have := hr.1
    rw [hcs, List.length_map, List.length_take, List.length_drop]
    show _ = _
    omega
  have H1 : Hid (∀ u ∈ cs, u.oneCell' = true) := by rw [hcs]; exact one_cells _ _
  have HS : Hid (∀ j v, cs[j]? = some v → w.cell? (Addr.add ⟨b, off + 7, none⟩ j) = some v) := by
    intro j v hv
    have hj : j < m := by
      have := (List.getElem?_eq_some_iff.1 hv).1
      rw [HL.out] at this; exact this
    rw [add_none, show off + 7 + j = off + (7 + j) by omega, hcell (7 + j) (by omega), ← hv, hcs]
    simp only [List.getElem?_map, List.getElem?_take, hj, if_true, List.getElem?_drop, List.getD_eq_getElem?_getD]
    have hl := hr.1
    rw [List.getElem?_eq_getElem (show 7 + j < zs.length by omega)]
    rfl
  clear hr hx he hT hU hL hK hcell hcs hm
  go_enter Try.func128, Try.ntmps128
  go_wp2_with (first
    | (go_at_call 130
       refine (C1.out _ ((Below.refl _ _).alloc (Nat.le_refl _) _)).mono ?_
       rintro e w2 ⟨rfl, hb2⟩
       replace hb2 := below_alloc1 hb2
       have HX2 := Lib.hid (box3 _ _ _ _ _ _ hb2)
       have HB2 := Lib.hid (below_alloc0 hb2)
       have hlt2 : w.heap.size < w2.heap.size := HX2.out.lt
       have HSO : Hid (∀ p j v, cs[j]? = some v → ((w2.alloc (.cells #[.int .i64 T, .int .i64 L, .int .i64 U] 167)).alloc p).cell? (Addr.add ⟨b, off + 7, none⟩ j) = some v) := by
         intro p j v hv
         have h0 := HS.out j v hv
         rw [add_none] at h0 ⊢
         rw [(below_alloc0 (below2 w2 _ p)).cell (show b < w2.heap.size by omega), HB2.out.cell (show b < w.heap.size from hb)]
         exact h0
       clear hb2)
    | (with_reducible refine wpList_copy_splice (o := ⟨some 33, _, _, _, _, _⟩) rfl _ _ 22 22 rfl 5 Try.underlying22 (by kernel_rfl) _ _ m m m (c - 7) rfl rfl (w2.heap.size + 1) 0 (List.replicate m (Value.int .u8 0)) 5 (heap2_new _ _ _ _ _) cs (by rw [HL.out]; exact (Nat.min_self _).symm) (fun h0 => ⟨rfl, ⟨b, off + 7, none⟩, rfl, HSO.out _⟩) (by rw [List.length_replicate, HL.out]; omega) H1.out (w2.heap.size + 1) (w2.alloc (.cells #[.int .i64 T, .int .i64 L, .int .i64 U] 167)) (below2 _ _ _) (Nat.le_refl _) ?_
       intro w3 HG hB
       have HW3 : Hid (WholeV w3 (w2.heap.size + 1) 5 cs) := by
         have hg0 := HG.out
         have := splice_any m 0 cs (.int .u8 0) HL.out
         rw [Nat.add_zero] at this
         rw [this, List.replicate_zero, List.append_nil] at hg0
         exact hg0
       have HB3 := Lib.hid hB
       have HX3 := Lib.hid (HX2.out.below (below_alloc0 hB) hlt2)
       have HH3 := Lib.hid (box3 _ _ _ _ _ _ hB)
       have hx0 := HX3.out.cell 0
       have hx1 := HX3.out.cell 1
       have hx2 := HX3.out.cell 2
       have hf0 := HX3.out.frozen 0
       have hf1 := HX3.out.frozen 1
       have hf2 := HX3.out.frozen 2
       have hh0 := HH3.out.cell 0
       have hh1 := HH3.out.cell 1
       have hh2 := HH3.out.cell 2
       have hlt3 : w2.heap.size < w3.heap.size := HH3.out.lt
       clear hB HG))
  have h9 := ((HX3.out.set 0 (.int .i64 T)).set 1 (.int .i64 U)).set 2 (.slice (some ⟨w2.heap.size + 1, 0, none⟩) m m)
  have hb9 := (((HB2.out.trans ((below_alloc0 HB3.out).mono HB2.out.size)).setCell (p := ⟨w.heap.size, 0, none⟩) (Nat.le_refl _) (.int .i64 T)).setCell (p := ⟨w.heap.size, 1, none⟩) (Nat.le_refl _) (.int .i64 U)).setCell (p := ⟨w.heap.size, 2, none⟩) (Nat.le_refl _) (.slice (some ⟨w2.heap.size + 1, 0, none⟩) m m)
  have hne : w2.heap.size + 1 ≠ w.heap.size := by omega
  have hw9 := ((HW3.out.far hne 0 (.int .i64 T)).far hne 1 (.int .i64 U)).far hne 2 (.slice (some ⟨w2.heap.size + 1, 0, none⟩) m m)
  have hz9 := h9.lt
  have q0 := h9.cell 0
  have q1 := h9.cell 1
  have q2 := h9.cell 2
  rw [HC.out] at hw9
  have hw8 := WholeV.ints' hw9
  exact bodyPost_ret (v := .tuple #[.agg #[.int .i64 T, .int .i64 U, .slice (some ⟨w2.heap.size + 1, 0, none⟩) m m], .int .i64 K, .int .i64 0]) (by simp [results, Try.results128, go_sem, hz9, q0, q1, q2]) rfl ⟨w2.heap.size + 1, rfl, by omega, hw8, hb9⟩

end

end Go.Proofs.Ythmendcdfhlkkaa

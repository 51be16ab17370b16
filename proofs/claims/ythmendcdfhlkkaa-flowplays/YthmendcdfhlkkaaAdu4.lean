/- The document's frames: Cut of a whole frame; FrameBytes. -/
import Derived.Test.YthmendcdfhlkkaaJFlowBad1
namespace Go.Proofs.Ythmendcdfhlkkaa
open Go.ChangeShapes Go.WideShapes Go.ChangeAt Go.RowKit
set_option linter.unusedVariables false
set_option linter.unusedSimpArgs false

section
variable (A : Option Addr) (n c : Nat) (zs : List Int) (w : World)

set_option maxRecDepth 100000 in
set_option maxHeartbeats 16000000 in
theorem rcut_ok (m : Nat) (hr : Row .u8 w w.heap.size A n zs) (hx : Bytes8 zs) (hn : n ≤ 100000) (hc : n ≤ c) (he : hE zs n = 0) (hm : wordAt zs 4 = (m : Int) + 1) (hle : 7 + m ≤ n) :
    Calls Try.prog 77 #[.slice A n c] w fun e w' => ∃ B d, e = .returned (.tuple #[.agg #[.int .i64 (wordAt zs 0), .int .i64 (zs.getD 6 0), .slice B m d], .int .i64 ((7 + m : Nat) : Int), .int .i64 0]) ∧ w'.ownsRow w.heap.size 5 1 (.slice B m d) m (((zs.drop 7).take m).map (Value.int .u8)) ∧ Below w.heap.size w w' := by
  have C1 := Lib.hid (fun W (hb : Below w.heap.size w W) => rhead_any A n c zs W ((hr.below hb).more hb.size) hx hn)
  rw [hV_ok he] at C1
  obtain ⟨_, _, g1, g2⟩ := hE_good he
  obtain ⟨T, hT⟩ : ∃ T, wordAt zs 0 = T := ⟨_, rfl⟩
  obtain ⟨L, hL⟩ : ∃ L, wordAt zs 4 = L := ⟨_, rfl⟩
  obtain ⟨U, hU⟩ : ∃ U, zs.getD 6 0 = U := ⟨_, rfl⟩
  obtain ⟨K, hK⟩ : ∃ K : Nat, 7 + m = K := ⟨_, rfl⟩
  rw [hT, hU, hK]
  rw [hT, hL, hU] at C1
  rw [hL] at hm g1 g2
  rw [hK] at hle
  have hk1 : 6 + L = (K : Int) := by omega
  have hk3 : K - 7 = m := by omega
  have hk4 : ¬ (n : Int) < (K : Int) := by omega
  have hk5 : (7 : Int) ≤ (K : Int) := by omega
  have hk6 : (K : Int) ≤ (c : Int) := by omega
  have hk7 : ¬ c = 7 := by omega
  have hkw : IntKind.i64.wrap (K : Int) = (K : Int) := IntWalk.i64_in _ (by omega)
  obtain ⟨b, off, hA, hb, hcell⟩ := hr.2 (by omega)
  subst hA
  obtain ⟨cs, hcs⟩ : ∃ cs, cs = ((zs.drop 7).take m).map (Value.int .u8) := ⟨_, rfl⟩
  rw [← hcs]
  have HL : Hid (cs.length = m) := by
    have := hr.1
    rw [hcs, List.length_map, List.length_take, List.length_drop]
    show _ = _
    omega
  have H1 : Hid (∀ u ∈ cs, u.oneCell' = true) := by rw [hcs]; exact one_cells _ _
  have HS : Hid (∀ W, Below w.heap.size w W → RowV W W.heap.size (some ⟨b, off + 7, none⟩) m cs) := by
    intro W hW
    refine ⟨HL.out, fun _ => ⟨b, off + 7, rfl, by have := hW.size; omega, fun j hj => ?_⟩⟩
    rw [hW.cell (show b < w.heap.size from hb), show off + 7 + j = off + (7 + j) by omega, hcell (7 + j) (by omega), hcs]
    simp only [List.getElem?_map, List.getElem?_take, hj, if_true, List.getElem?_drop, List.getD_eq_getElem?_getD]
    have hl := hr.1
    rw [List.getElem?_eq_getElem (show 7 + j < zs.length by omega)]
    rfl
  clear hr hx he hT hU hL hK hcell hcs hm
  go_enter Try.func77, Try.ntmps77
  go_wp2_with (first
    | (go_at_call 118
       refine (C1.out _ ((Below.refl _ _).alloc (Nat.le_refl _) _)).mono ?_
       rintro e w2 ⟨rfl, hb2⟩
       replace hb2 := below_alloc1 hb2
       have HX2 := Lib.hid (box3 _ _ _ _ _ _ hb2)
       have HB2 := Lib.hid (below_alloc0 hb2)
       have hlt2 : w.heap.size < w2.heap.size := HX2.out.lt
       clear hb2))
  obtain ⟨w3, hw3⟩ : ∃ w3, w2.alloc (.cells #[.int .i64 T, .int .i64 L, .int .i64 U] 136) = w3 := ⟨_, rfl⟩
  have hH3 : WholeV w3 w2.heap.size 136 [.int .i64 T, .int .i64 L, .int .i64 U] := by rw [← hw3]; exact heap_alloc_new w2 _
  have hX3 : WholeV w3 w.heap.size 67 [.int .i64 0, .int .i64 0, .slice none 0 0] := by rw [← hw3]; exact HX2.out.below ((Below.refl w2.heap.size w2).alloc (Nat.le_refl _) _) HX2.out.lt
  have hz3 : w3.heap.size = w2.heap.size + 1 := by rw [← hw3]; simp
  have HB3 : Hid (Below w.heap.size w w3) := by rw [← hw3]; exact HB2.out.alloc HB2.out.size _
  rw [hw3]
  clear hw3
  have hh0 := hH3.cell 0
  have hh1 := hH3.cell 1
  have hh2 := hH3.cell 2
  have HH3 := Lib.hid hH3
  have HX3 := Lib.hid hX3
  have HZ3 := Lib.hid hz3
  have hlt3 : w2.heap.size < w3.heap.size := hH3.lt
  clear hH3 hX3 hz3
  go_region_law (first
    | (refine step_append_to (.const (.slice none 0 0)) (.tmp 31) 22 w3.heap.size 5 (.int .u8 0) 1 Try.underlying22 info5 rfl (.slice none 0 0) 0 [] m cs m cs (by omega) rfl H1.out (by omega) (by omega) ⟨rfl, rfl, rfl⟩ (own_none _ _ _) ⟨some ⟨b, off + 7, none⟩, c - 7, by first | (simp [eval_put_tmp, size_put]; done) | (simp [eval_put_tmp, size_put]; simp [Act.eval]; done) | (simp [Act.eval]; done), HS.out _ HB3.out.drew⟩ (Nat.le_refl _) ?_
       intro A6 c6 w6 hown hg
       have HO6 := Lib.hid hown
       have hb6 := below_append (Below.refl w3.heap.size w3).drew (own_none _ _ 5) hg (Nat.le_refl _)
       have HX6 := Lib.hid (HX3.out.below hb6 HX3.out.lt)
       have HH6 := Lib.hid (HH3.out.below hb6 HH3.out.lt)
       have HB6 := Lib.hid (HB3.out.trans (hb6.mono HB3.out.size))
       have hx0 := HX6.out.cell 0
       have hx1 := HX6.out.cell 1
       have hx2 := HX6.out.cell 2
       have hf0 := HX6.out.frozen 0
       have hf1 := HX6.out.frozen 1
       have hf2 := HX6.out.frozen 2
       have hh6 := HH6.out.cell 0
       have hh7 := HH6.out.cell 1
       have hh8 := HH6.out.cell 2
       clear hown hg hb6))
  all_goals
    go_wp2
    have h9 := ((HX6.out.set 0 (.int .i64 T)).set 1 (.int .i64 U)).set 2 (.slice A6 m c6)
    have hb9 := ((HB6.out.setCell (p := ⟨w.heap.size, 0, none⟩) (Nat.le_refl _) (.int .i64 T)).setCell (p := ⟨w.heap.size, 1, none⟩) (Nat.le_refl _) (.int .i64 U)).setCell (p := ⟨w.heap.size, 2, none⟩) (Nat.le_refl _) (.slice A6 m c6)
    have ho9 := ownsRow_setCell_below (ownsRow_setCell_below (ownsRow_setCell_below HO6.out (a := ⟨w.heap.size, 0, none⟩) (by show w.heap.size < _; omega) (.int .i64 T)) (a := ⟨w.heap.size, 1, none⟩) (by show w.heap.size < _; omega) (.int .i64 U)) (a := ⟨w.heap.size, 2, none⟩) (by show w.heap.size < _; omega) (.slice A6 m c6)
    have ho8 := own_mono (b' := w.heap.size) ho9 (by omega)
    have hz9 := h9.lt
    have q0 := h9.cell 0
    have q1 := h9.cell 1
    have q2 := h9.cell 2
    exact bodyPost_ret (v := .tuple #[.agg #[.int .i64 T, .int .i64 U, .slice A6 m c6], .int .i64 K, .int .i64 0]) (by simp [results, Try.results77, go_sem, hz9, q0, q1, q2]) rfl ⟨A6, c6, rfl, ho8, hb9⟩

end

end Go.Proofs.Ythmendcdfhlkkaa

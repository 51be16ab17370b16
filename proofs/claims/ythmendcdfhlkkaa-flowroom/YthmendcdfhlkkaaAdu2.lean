/- Package adu: Bytes of what is no frame; Cut. -/
import Derived.Test.YthmendcdfhlkkaaAdu1
namespace Go.Proofs.Ythmendcdfhlkkaa
open Go.ChangeShapes Go.WideShapes Go.ChangeAt Go.RowKit
set_option linter.unusedVariables false
set_option linter.unusedSimpArgs false

/-- What a walk is told of a box of three cells, behind one more block, when it stores into it. -/
theorem box3_on {w : World} {g : Nat} {T : TypeId} {a0 a1 a2 : Value} (h : WholeV w g T [a0, a1, a2]) (o : Obj) :
    w.cell? ⟨g, 0, none⟩ = some a0 ∧ w.cell? ⟨g, 1, none⟩ = some a1 ∧ w.cell? ⟨g, 2, none⟩ = some a2 ∧ (w.alloc o).frozen? ⟨g, 0, none⟩ = false ∧ (∀ v, ((w.setCell ⟨g, 0, none⟩ v).alloc o).frozen? ⟨g, 1, none⟩ = false) ∧ ∀ v v', (((w.setCell ⟨g, 0, none⟩ v).setCell ⟨g, 1, none⟩ v').alloc o).frozen? ⟨g, 2, none⟩ = false := by
  have hk : ∀ {W : World} {vs : List Value} (i : Nat), WholeV W g T vs → (W.alloc o).frozen? ⟨g, i, none⟩ = false := fun {W vs} i hW => (hW.below ((Below.refl W.heap.size W).alloc (Nat.le_refl _) o) hW.lt : WholeV _ _ _ _).frozen i
  exact ⟨h.cell 0, h.cell 1, h.cell 2, hk 0 h, fun v => hk 1 (h.set 0 v), fun v v' => hk 2 ((h.set 0 v).set 1 v')⟩
/-- Three stores into such a box. -/
theorem set3 {w w0 : World} {B g : Nat} {T : TypeId} {a0 a1 a2 : Value} (h : WholeV w g T [a0, a1, a2]) (hb : Below B w0 w) (hg : B ≤ g) (b0 b1 b2 : Value) (o : Obj) :
    WholeV ((((w.setCell ⟨g, 0, none⟩ b0).setCell ⟨g, 1, none⟩ b1).setCell ⟨g, 2, none⟩ b2).alloc o) g T [b0, b1, b2] ∧ Below B w0 ((((w.setCell ⟨g, 0, none⟩ b0).setCell ⟨g, 1, none⟩ b1).setCell ⟨g, 2, none⟩ b2).alloc o) := by
  have h1 := ((h.set 0 b0).set 1 b1).set 2 b2
  have hb1 := ((hb.setCell (p := ⟨g, 0, none⟩) hg b0).setCell (p := ⟨g, 1, none⟩) hg b1).setCell (p := ⟨g, 2, none⟩) hg b2
  exact ⟨h1.below ((Below.refl _ _).alloc (Nat.le_refl _) o) h1.lt, hb1.alloc (by have := h.lt; simp; omega) o⟩

section
variable (A : Option Addr) (n c : Nat) (zs : List Int) (w : World)

set_option maxRecDepth 100000 in
set_option maxHeartbeats 1000000 in
theorem acut_err (E : Int) (hr : Row .u8 w w.heap.size A n zs) (hx : Bytes8 zs) (hn : n ≤ 100000) (he : hE zs n = E) (h0 : E ≠ 0) :
    Calls Try.prog 128 #[.slice A n c] w fun e w' => e = .returned (.tuple #[.agg #[.int .i64 0, .int .i64 0, .slice none 0 0], .int .i64 0, .int .i64 E]) ∧ Below w.heap.size w w' := by
  have C1 := Lib.hid (fun W (hb : Below w.heap.size w W) => hget_any A n c zs W ((hr.below hb).more hb.size) hx hn)
  rw [hV_err he h0] at C1
  have hE0 : (E != 0) = true := by simpa using h0
  clear hr hx he
  go_enter Try.func128, Try.ntmps128
  go_wp2_with (first
    | (go_at_call 130
       refine (C1.out _ ((Below.refl _ _).alloc (Nat.le_refl _) _)).mono ?_
       rintro e w2 ⟨rfl, hb2⟩
       replace hb2 := below_alloc1 hb2
       have HX2 := Lib.hid (box3 _ _ _ _ _ _ hb2)
       have HB2 := Lib.hid (below_alloc0 hb2)
       have hlt2 : w.heap.size < w2.heap.size := HX2.out.lt
       obtain ⟨hc0, hc1, hc2, hf0, hf1, hf2⟩ := box3_on HX2.out (.cells #[.int .i64 0, .int .i64 0, .int .i64 0] 167)
       clear hb2))
  obtain ⟨h9, hb9⟩ := set3 HX2.out HB2.out (Nat.le_refl _) (.int .i64 0) (.int .i64 0) (.slice none 0 0) (.cells #[.int .i64 0, .int .i64 0, .int .i64 0] 167)
  have hz9 := h9.lt
  have q0 := h9.cell 0
  have q1 := h9.cell 1
  have q2 := h9.cell 2
  exact bodyPost_ret (v := .tuple #[.agg #[.int .i64 0, .int .i64 0, .slice none 0 0], .int .i64 0, .int .i64 E]) (by simp [results, Try.results128, go_sem, hz9, q0, q1, q2]) rfl ⟨rfl, hb9⟩

set_option maxRecDepth 100000 in
set_option maxHeartbeats 1000000 in
theorem acut_more (hr : Row .u8 w w.heap.size A n zs) (hx : Bytes8 zs) (hn : n ≤ 100000) (he : hE zs n = 0) (h0 : (n : Int) < 6 + wordAt zs 4) :
    Calls Try.prog 128 #[.slice A n c] w fun e w' => e = .returned (.tuple #[.agg #[.int .i64 0, .int .i64 0, .slice none 0 0], .int .i64 0, .int .i64 3]) ∧ Below w.heap.size w w' := by
  have C1 := Lib.hid (fun W (hb : Below w.heap.size w W) => hget_any A n c zs W ((hr.below hb).more hb.size) hx hn)
  rw [hV_ok he] at C1
  obtain ⟨b1, b2⟩ := wordAt_bounds hx 4
  obtain ⟨T, hT⟩ : ∃ T, wordAt zs 0 = T := ⟨_, rfl⟩
  obtain ⟨L, hL⟩ : ∃ L, wordAt zs 4 = L := ⟨_, rfl⟩
  obtain ⟨U, hU⟩ : ∃ U, zs.getD 6 0 = U := ⟨_, rfl⟩
  rw [hT, hL, hU] at C1
  rw [hL] at h0 b1 b2
  clear hr hx he hT hL hU
  go_enter Try.func128, Try.ntmps128
  go_wp2_with (first
    | (go_at_call 130
       refine (C1.out _ ((Below.refl _ _).alloc (Nat.le_refl _) _)).mono ?_
       rintro e w2 ⟨rfl, hb2⟩
       replace hb2 := below_alloc1 hb2
       have HX2 := Lib.hid (box3 _ _ _ _ _ _ hb2)
       have HB2 := Lib.hid (below_alloc0 hb2)
       have hlt2 : w.heap.size < w2.heap.size := HX2.out.lt
       obtain ⟨hc0, hc1, hc2, hf0, hf1, hf2⟩ := box3_on HX2.out (.cells #[.int .i64 T, .int .i64 L, .int .i64 U] 167)
       clear hb2))
  obtain ⟨h9, hb9⟩ := set3 HX2.out HB2.out (Nat.le_refl _) (.int .i64 0) (.int .i64 0) (.slice none 0 0) (.cells #[.int .i64 T, .int .i64 L, .int .i64 U] 167)
  have hz9 := h9.lt
  have q0 := h9.cell 0
  have q1 := h9.cell 1
  have q2 := h9.cell 2
  exact bodyPost_ret (v := .tuple #[.agg #[.int .i64 0, .int .i64 0, .slice none 0 0], .int .i64 0, .int .i64 3]) (by simp [results, Try.results128, go_sem, hz9, q0, q1, q2]) rfl ⟨rfl, hb9⟩

set_option maxRecDepth 100000 in
set_option maxHeartbeats 1000000 in
theorem rcut_err (E : Int) (hr : Row .u8 w w.heap.size A n zs) (hx : Bytes8 zs) (hn : n ≤ 100000) (he : hE zs n = E) (h0 : E ≠ 0) :
    Calls Try.prog 77 #[.slice A n c] w fun e w' => e = .returned (.tuple #[.agg #[.int .i64 0, .int .i64 0, .slice none 0 0], .int .i64 0, .int .i64 E]) ∧ Below w.heap.size w w' := by
  have C1 := Lib.hid (fun W (hb : Below w.heap.size w W) => rhead_any A n c zs W ((hr.below hb).more hb.size) hx hn)
  rw [hV_err he h0] at C1
  have hE0 : (E != 0) = true := by simpa using h0
  clear hr hx he
  go_enter Try.func77, Try.ntmps77
  go_wp2_with (first
    | (go_at_call 118
       refine (C1.out _ ((Below.refl _ _).alloc (Nat.le_refl _) _)).mono ?_
       rintro e w2 ⟨rfl, hb2⟩
       replace hb2 := below_alloc1 hb2
       have HX2 := Lib.hid (box3 _ _ _ _ _ _ hb2)
       have HB2 := Lib.hid (below_alloc0 hb2)
       have hlt2 : w.heap.size < w2.heap.size := HX2.out.lt
       obtain ⟨hc0, hc1, hc2, hf0, hf1, hf2⟩ := box3_on HX2.out (.cells #[.int .i64 0, .int .i64 0, .int .i64 0] 136)
       clear hb2))
  obtain ⟨h9, hb9⟩ := set3 HX2.out HB2.out (Nat.le_refl _) (.int .i64 0) (.int .i64 0) (.slice none 0 0) (.cells #[.int .i64 0, .int .i64 0, .int .i64 0] 136)
  have hz9 := h9.lt
  have q0 := h9.cell 0
  have q1 := h9.cell 1
  have q2 := h9.cell 2
  exact bodyPost_ret (v := .tuple #[.agg #[.int .i64 0, .int .i64 0, .slice none 0 0], .int .i64 0, .int .i64 E]) (by simp [results, Try.results77, go_sem, hz9, q0, q1, q2]) rfl ⟨rfl, hb9⟩

set_option maxRecDepth 100000 in
set_option maxHeartbeats 1000000 in
theorem rcut_more (hr : Row .u8 w w.heap.size A n zs) (hx : Bytes8 zs) (hn : n ≤ 100000) (he : hE zs n = 0) (h0 : (n : Int) < 6 + wordAt zs 4) :
    Calls Try.prog 77 #[.slice A n c] w fun e w' => e = .returned (.tuple #[.agg #[.int .i64 0, .int .i64 0, .slice none 0 0], .int .i64 0, .int .i64 3]) ∧ Below w.heap.size w w' := by
  have C1 := Lib.hid (fun W (hb : Below w.heap.size w W) => rhead_any A n c zs W ((hr.below hb).more hb.size) hx hn)
  rw [hV_ok he] at C1
  obtain ⟨b1, b2⟩ := wordAt_bounds hx 4
  obtain ⟨T, hT⟩ : ∃ T, wordAt zs 0 = T := ⟨_, rfl⟩
  obtain ⟨L, hL⟩ : ∃ L, wordAt zs 4 = L := ⟨_, rfl⟩
  obtain ⟨U, hU⟩ : ∃ U, zs.getD 6 0 = U := ⟨_, rfl⟩
  rw [hT, hL, hU] at C1
  rw [hL] at h0 b1 b2
  clear hr hx he hT hL hU
  go_enter Try.func77, Try.ntmps77
  go_wp2_with (first
    | (go_at_call 118
       refine (C1.out _ ((Below.refl _ _).alloc (Nat.le_refl _) _)).mono ?_
       rintro e w2 ⟨rfl, hb2⟩
       replace hb2 := below_alloc1 hb2
       have HX2 := Lib.hid (box3 _ _ _ _ _ _ hb2)
       have HB2 := Lib.hid (below_alloc0 hb2)
       have hlt2 : w.heap.size < w2.heap.size := HX2.out.lt
       obtain ⟨hc0, hc1, hc2, hf0, hf1, hf2⟩ := box3_on HX2.out (.cells #[.int .i64 T, .int .i64 L, .int .i64 U] 136)
       clear hb2))
  obtain ⟨h9, hb9⟩ := set3 HX2.out HB2.out (Nat.le_refl _) (.int .i64 0) (.int .i64 0) (.slice none 0 0) (.cells #[.int .i64 T, .int .i64 L, .int .i64 U] 136)
  have hz9 := h9.lt
  have q0 := h9.cell 0
  have q1 := h9.cell 1
  have q2 := h9.cell 2
  exact bodyPost_ret (v := .tuple #[.agg #[.int .i64 0, .int .i64 0, .slice none 0 0], .int .i64 0, .int .i64 3]) (by simp [results, Try.results77, go_sem, hz9, q0, q1, q2]) rfl ⟨rfl, hb9⟩

end

end Go.Proofs.Ythmendcdfhlkkaa

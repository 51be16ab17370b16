/- busbarlaw6.TellTells of any reply that is not too much. No statement is proved here. -/
import Derived.Test.YtcmnhpogepahgaaJTellTells2
import Derived.Test.YtcmnhpogepahgaaJTellTells6
import Derived.Test.YtcmnhpogepahgaaJTellTells5
import Derived.Deep.RegionHeld3
namespace Go.Proofs.Ytcmnhpogepahgaa
open Go.ChangeShapes Go.WideShapes Go.ChangeAt Go.RowKit
set_option linter.unusedVariables false
set_option linter.unusedSimpArgs false

theorem far6 {w : World} {g : Nat} {t : TypeId} {vs : List Value} (h : WholeV w g t vs) (p : Addr) (u : Value) (hp : p.block ≠ g) : WholeV (w.setCell p u) g t vs := by
  unfold WholeV at *
  rw [← h]
  unfold World.setCell
  simp [Array.getElem?_modify, hp]
theorem lentbits_g6 (A : Option Addr) (n c : Nat) (bs : List Bool) (w : World) (hr : BRow w w.heap.size A n bs) (hn : n ≤ 100000) :
    Calls Try.prog 12 #[.slice A n c] w fun e w' => ∃ g, e = .returned (.slice (some ⟨g, 0, none⟩) n (n + 3)) ∧ WholeV w' g 4 ((bs ++ [true, true, true]).map Value.bool) ∧ w.heap.size ≤ g ∧ Below w.heap.size w w' :=
  (lentbits_any A n c bs w hr hn).mono fun e w' ⟨h1, h2, h3⟩ => ⟨_, h1, h2, Nat.le_refl _, h3⟩
theorem lentw_g6 (A : Option Addr) (n c : Nat) (zs : List Int) (w : World) (hr : Row .u16 w w.heap.size A n zs) (hn : n ≤ 100000) :
    Calls Try.prog 13 #[.slice A n c] w fun e w' => ∃ g, e = .returned (.slice (some ⟨g, 0, none⟩) n (n + 3)) ∧ Whole .u16 w' g 24 (zs ++ [42405, 42405, 42405]) ∧ w.heap.size ≤ g ∧ Below w.heap.size w w' :=
  (lentw_any A n c zs w hr hn).mono fun e w' ⟨h1, h2, h3⟩ => ⟨_, h1, h2, Nat.le_refl _, h3⟩
theorem lentobjs_g6 (A : Option Addr) (n c : Nat) (os : List Ob) (w : World) (hl : OL w w.heap.size A n os) (hn : n ≤ 100000) :
    Calls Try.prog 14 #[.slice A n c] w fun e w' => ∃ g, e = .returned (.slice (some ⟨g, 0, none⟩) n (n + 3)) ∧ WholeV w' g 77 (obs (os ++ [obM, obM, obM])) ∧ w.heap.size ≤ g ∧ Below w.heap.size w w' :=
  (lentobjs_any A n c os w hl hn).mono fun e w' ⟨h1, h2, h3⟩ => ⟨_, h1, h2, Nat.le_refl _, h3⟩
theorem ol_front {w : World} {g n : Nat} {t : TypeId} {os ps : List Ob} (h : WholeV w g t (obs (os ++ ps))) (hn : os.length = n) : OL w w.heap.size (some ⟨g, 0, none⟩) n os := by
  have h2 := h.row
  rw [obs_append, List.length_append, obs_length, hn] at h2
  exact RowV.front h2 (by rw [obs_length, hn])

set_option maxRecDepth 100000 in
set_option maxHeartbeats 4000000 in
theorem ltt_in (fn ex : Int) (bl wl : Nat) (at_ q v an orr co le : Int) (mo : Bool) (nx : Int) (ol : Nat) (bs : List Bool) (ws : List Int) (os : List Ob) (BA WA OA : Option Addr) (bc wc oc : Nat) (w : World)
    (hw : WideT at_ q v an orr co le nx) (hbr : BRow w w.heap.size BA bl bs) (hwr : Row .u16 w w.heap.size WA wl ws) (hxw : Words ws) (hlo : OL w w.heap.size OA ol os) (hf : few6P bl wl ol os) :
    Calls Try.prog 3 #[.agg #[.int .i64 fn, .int .i64 ex, .slice BA bl bc, .slice WA wl wc, .int .i64 at_, .int .i64 q, .int .u16 v, .int .u16 an, .int .u16 orr, .int .i64 co, .int .i64 le, .bool mo, .int .i64 nx, .slice OA ol oc]] w fun e w' => e = .returned (.bool true) ∧ Below w.heap.size w w' := by
  obtain ⟨f1, f2, f3, f4⟩ := id hf
  obtain ⟨N, X, er, hP, hR⟩ := both_tell fn ex bl wl at_ q v an orr co le mo nx ol bs ws os hw f4 f1 hxw
  have HP := Lib.hid hP
  have HR := Lib.hid hR
  have HW := Lib.hid hw
  have HZ : Hid (∀ o ∈ os, o.2.size ≤ 1000000) := fun o h => by have := f1 o h; omega
  have HFW := Lib.hid hf
  have HBR : Hid (∀ X, Below w.heap.size w X → BRow X X.heap.size BA bl bs) := fun X hX => (hbr.below hX).more hX.size
  have HWR : Hid (∀ X, Below w.heap.size w X → Row .u16 X X.heap.size WA wl ws) := fun X hX => (hwr.below hX).more hX.size
  have HOL : Hid (∀ X, Below w.heap.size w X → OL X X.heap.size OA ol os) := fun X hX => hlo.below hX
  have HLO := Lib.hid hlo.len
  have CF := Lib.hid (fun W (hW : Below w.heap.size w W) => few6_any fn ex bl wl at_ q v an orr co le mo nx ol BA WA OA bc wc oc os W true (hlo.below hW) (by unfold maxLen; omega) (fun o h => by have := f1 o h; unfold maxLen; omega) ⟨fun _ => hf, fun _ => rfl⟩)
  clear hw hbr hwr hxw hlo hf hP hR f1
  go_enter Try.func3, Try.ntmps3
  go_wp2_with (first
    | (go_at_call 10
       (with_reducible refine (CF.out _ ((Below.refl _ _).alloc (Nat.le_refl _) _)).mono ?_)
       rintro e w1 ⟨rfl, hb1⟩
       have HX1 := Lib.hid (box14 _ _ _ _ _ _ _ _ _ _ _ _ _ _ _ w w1 (by first | exact hb1 | simpa using hb1))
       have HB1 : Hid (Below w.heap.size w w1) := ((Below.refl _ _).alloc (Nat.le_refl _) _).trans (hb1.mono (by simp))
       clear hb1)
    | (go_at_call 11
       refine (awake_any _).mono ?_
       rintro e w2 ⟨rfl, hb2⟩
       have HX2 := Lib.hid (HX1.out.below hb2 HX1.out.lt)
       have HB2 := Lib.hid (HB1.out.trans (hb2.mono HB1.out.size))
       obtain ⟨xa0, xa1, xa2, xa3, xa4, xa5, xa6, xa7, xa8, xa9, xa10, xa11, xa12, xa13⟩ := cells14 HX2.out
       clear hb2))
  clear xa0 xa1 xa2 xa3 xa4 xa5 xa6 xa7 xa8 xa9 xa10 xa11 xa12 xa13
  obtain ⟨w3, hw3⟩ : ∃ w3, w2.alloc (.cells #[.int .i64 fn, .int .i64 ex, .slice BA bl bc, .slice WA wl wc, .int .i64 at_, .int .i64 q, .int .u16 v, .int .u16 an, .int .u16 orr, .int .i64 co, .int .i64 le, .bool mo, .int .i64 nx, .slice OA ol oc] 27) = w3 := ⟨_, rfl⟩
  have hM3 : WholeV w3 w2.heap.size 27 [.int .i64 fn, .int .i64 ex, .slice BA bl bc, .slice WA wl wc, .int .i64 at_, .int .i64 q, .int .u16 v, .int .u16 an, .int .u16 orr, .int .i64 co, .int .i64 le, .bool mo, .int .i64 nx, .slice OA ol oc] := by rw [← hw3]; exact heap_alloc_new w2 _
  have hb3 : Below w2.heap.size w2 w3 := by rw [← hw3]; exact (Below.refl _ _).alloc (Nat.le_refl _) _
  have hz3 : w3.heap.size = w2.heap.size + 1 := by rw [← hw3]; simp
  rw [hw3]
  clear hw3
  have HM3 := Lib.hid hM3
  have HX3 := Lib.hid (HX2.out.below hb3 HX2.out.lt)
  have HB3 := Lib.hid (HB2.out.trans (hb3.mono HB2.out.size))
  have HZ3 := Lib.hid hz3
  have hlt2 : w.heap.size < w2.heap.size := HX2.out.lt
  have KS1 : Hid (∀ X, Below w2.heap.size w3 X → X.cell? ⟨w.heap.size, 2, none⟩ = some (.slice BA bl bc) ∧ X.cell? ⟨w.heap.size, 3, none⟩ = some (.slice WA wl wc) ∧ X.cell? ⟨w.heap.size, 13, none⟩ = some (.slice OA ol oc) ∧ Below w2.heap.size w3 X) :=
    fun X hX => ⟨(hX.cell (p := ⟨w.heap.size, 2, none⟩) hlt2).trans (HX3.out.cell 2), (hX.cell (p := ⟨w.heap.size, 3, none⟩) hlt2).trans (HX3.out.cell 3), (hX.cell (p := ⟨w.heap.size, 13, none⟩) hlt2).trans (HX3.out.cell 13), hX⟩
  clear hM3 hb3 hz3
  go_region_held3 (fun X => X.cell? ⟨w.heap.size, 2, none⟩ = some (.slice BA bl bc) ∧ X.cell? ⟨w.heap.size, 3, none⟩ = some (.slice WA wl wc) ∧ X.cell? ⟨w.heap.size, 13, none⟩ = some (.slice OA ol oc) ∧ Below w2.heap.size w3 X)
    (first
      | exact KS1.out _ (Below.refl _ _).drew
      | exact KS1.out _ K4.out
      | exact KS1.out _ K5.out
      | exact KS1.out _ K6.out
      | exact KS1.out _ (K6.out.setCell (Nat.le_refl _) _)
      | exact KS1.out _ ((K6.out.setCell (Nat.le_refl _) _).setCell (Nat.le_refl _) _)
      | exact KS1.out _ (((K6.out.setCell (Nat.le_refl _) _).setCell (Nat.le_refl _) _).setCell (Nat.le_refl _) _))
    (first
      | (go_at_call 12
         (with_reducible refine (lentbits_g6 BA bl bc bs _ (HBR.out _ (by first | exact HB3.out.drew | exact HB3.out)) (by omega)).mono ?_)
         rintro e w4 ⟨g4, rfl, ho4, hg4, hb4'⟩
         have hb4 : Below w3.heap.size w3 w4 := by first | exact below_from (d := 1) hb4' | exact hb4'
         have HO4 := Lib.hid ho4
         have HG4 : Hid (w3.heap.size ≤ g4) := hg4
         have HB4 := Lib.hid hb4
         have K4 : Hid (Below w2.heap.size w3 w4) := hb4.mono (by have := HZ3.out; omega)
         have hlt4 : w3.heap.size < w4.heap.size := Nat.lt_of_le_of_lt hg4 ho4.lt
         clear ho4 hg4 hb4' hb4)
      | (go_at_call 13
         (with_reducible refine (lentw_g6 WA wl wc ws _ (HWR.out _ (HB3.out.trans (HB4.out.mono HB3.out.size))) (by omega)).mono ?_)
         rintro e w5 ⟨g5, rfl, ho5, hg5, hb5⟩
         have HO5 := Lib.hid ho5
         have HO45 := Lib.hid (HO4.out.below hb5 HO4.out.lt)
         have HG5 : Hid (w4.heap.size ≤ g5) := hg5
         have HB5 := Lib.hid (HB4.out.trans (hb5.mono HB4.out.size))
         have K5 : Hid (Below w2.heap.size w3 w5) := HB5.out.mono (by have := HZ3.out; omega)
         have HS5 : Hid (w4.heap.size ≤ w5.heap.size) := hb5.size
         clear ho5 hg5 hb5)
      | (go_at_call 14
         (with_reducible refine (lentobjs_g6 OA ol oc os _ (HOL.out _ (HB3.out.trans (HB5.out.mono HB3.out.size))) (by omega)).mono ?_)
         rintro e w6 ⟨g6, rfl, ho6, hg6, hb6⟩
         have HO6 := Lib.hid ho6
         have HO46 := Lib.hid (HO45.out.below hb6 HO45.out.lt)
         have HO56 := Lib.hid (HO5.out.below hb6 HO5.out.lt)
         have HG6 : Hid (w5.heap.size ≤ g6) := hg6
         have HB6 := Lib.hid (HB5.out.trans (hb6.mono HB5.out.size))
         have K6 : Hid (Below w2.heap.size w3 w6) := HB6.out.mono (by have := HZ3.out; omega)
         have HM6 := Lib.hid (HM3.out.below HB6.out HM3.out.lt)
         have mz2 := HM6.out.cell 2
         have mz3 := HM6.out.cell 3
         have mz13 := HM6.out.cell 13
         have mf2 := HM6.out.frozen 2
         have mf3 := HM6.out.frozen 3
         have mf13 := HM6.out.frozen 13
         simp only [List.getElem?_cons_succ, List.getElem?_cons_zero] at mz2 mz3 mz13
         clear ho6 hg6 hb6))
  all_goals
    first
      | (obtain ⟨w9, hw9⟩ : ∃ w9, (((w6.setCell ⟨w2.heap.size, 2, none⟩ (.slice (some ⟨g4, 0, none⟩) bl (bl + 3))).setCell ⟨w2.heap.size, 3, none⟩ (.slice (some ⟨g5, 0, none⟩) wl (wl + 3))).setCell ⟨w2.heap.size, 13, none⟩ (.slice (some ⟨g6, 0, none⟩) ol (ol + 3))) = w9 := ⟨_, rfl⟩
         have hM9 : WholeV w9 w2.heap.size 27 [.int .i64 fn, .int .i64 ex, .slice (some ⟨g4, 0, none⟩) bl (bl + 3), .slice (some ⟨g5, 0, none⟩) wl (wl + 3), .int .i64 at_, .int .i64 q, .int .u16 v, .int .u16 an, .int .u16 orr, .int .i64 co, .int .i64 le, .bool mo, .int .i64 nx, .slice (some ⟨g6, 0, none⟩) ol (ol + 3)] := by rw [← hw9]; exact (((HM6.out.set 2 (.slice (some ⟨g4, 0, none⟩) bl (bl + 3))).set 3 (.slice (some ⟨g5, 0, none⟩) wl (wl + 3))).set 13 (.slice (some ⟨g6, 0, none⟩) ol (ol + 3)))
         have hb9 : Below w2.heap.size w6 w9 := by rw [← hw9]; exact (((Below.refl w2.heap.size w6).setCell (p := ⟨w2.heap.size, 2, none⟩) (Nat.le_refl _) (.slice (some ⟨g4, 0, none⟩) bl (bl + 3))).setCell (p := ⟨w2.heap.size, 3, none⟩) (Nat.le_refl _) (.slice (some ⟨g5, 0, none⟩) wl (wl + 3))).setCell (p := ⟨w2.heap.size, 13, none⟩) (Nat.le_refl _) (.slice (some ⟨g6, 0, none⟩) ol (ol + 3))
         have h49 : WholeV w9 g4 4 ((bs ++ [true, true, true]).map Value.bool) := by rw [← hw9]; exact (far6 (far6 (far6 HO46.out ⟨w2.heap.size, 2, none⟩ (.slice (some ⟨g4, 0, none⟩) bl (bl + 3)) (by have h1 := HG4.out; have h2 := HG5.out; have h3 := HG6.out; have h4 := HZ3.out; have h5 := HS5.out; show w2.heap.size ≠ g4; omega)) ⟨w2.heap.size, 3, none⟩ (.slice (some ⟨g5, 0, none⟩) wl (wl + 3)) (by have h1 := HG4.out; have h2 := HG5.out; have h3 := HG6.out; have h4 := HZ3.out; have h5 := HS5.out; show w2.heap.size ≠ g4; omega)) ⟨w2.heap.size, 13, none⟩ (.slice (some ⟨g6, 0, none⟩) ol (ol + 3)) (by have h1 := HG4.out; have h2 := HG5.out; have h3 := HG6.out; have h4 := HZ3.out; have h5 := HS5.out; show w2.heap.size ≠ g4; omega))
         have h59 : Whole .u16 w9 g5 24 (ws ++ [42405, 42405, 42405]) := by rw [← hw9]; exact (far6 (far6 (far6 HO56.out ⟨w2.heap.size, 2, none⟩ (.slice (some ⟨g4, 0, none⟩) bl (bl + 3)) (by have h1 := HG4.out; have h2 := HG5.out; have h3 := HG6.out; have h4 := HZ3.out; have h5 := HS5.out; show w2.heap.size ≠ g5; omega)) ⟨w2.heap.size, 3, none⟩ (.slice (some ⟨g5, 0, none⟩) wl (wl + 3)) (by have h1 := HG4.out; have h2 := HG5.out; have h3 := HG6.out; have h4 := HZ3.out; have h5 := HS5.out; show w2.heap.size ≠ g5; omega)) ⟨w2.heap.size, 13, none⟩ (.slice (some ⟨g6, 0, none⟩) ol (ol + 3)) (by have h1 := HG4.out; have h2 := HG5.out; have h3 := HG6.out; have h4 := HZ3.out; have h5 := HS5.out; show w2.heap.size ≠ g5; omega))
         have h69 : WholeV w9 g6 77 (obs (os ++ [obM, obM, obM])) := by rw [← hw9]; exact (far6 (far6 (far6 HO6.out ⟨w2.heap.size, 2, none⟩ (.slice (some ⟨g4, 0, none⟩) bl (bl + 3)) (by have h1 := HG4.out; have h2 := HG5.out; have h3 := HG6.out; have h4 := HZ3.out; have h5 := HS5.out; show w2.heap.size ≠ g6; omega)) ⟨w2.heap.size, 3, none⟩ (.slice (some ⟨g5, 0, none⟩) wl (wl + 3)) (by have h1 := HG4.out; have h2 := HG5.out; have h3 := HG6.out; have h4 := HZ3.out; have h5 := HS5.out; show w2.heap.size ≠ g6; omega)) ⟨w2.heap.size, 13, none⟩ (.slice (some ⟨g6, 0, none⟩) ol (ol + 3)) (by have h1 := HG4.out; have h2 := HG5.out; have h3 := HG6.out; have h4 := HZ3.out; have h5 := HS5.out; show w2.heap.size ≠ g6; omega))
         rw [hw9]
         clear hw9)
      | (obtain ⟨w9, hw9⟩ : ∃ w9, (((w6.setCell ⟨w2.heap.size, 2, none⟩ (.slice (some ⟨g4, 0, none⟩) bl (bl + 3))).setCell ⟨w2.heap.size, 13, none⟩ (.slice (some ⟨g6, 0, none⟩) ol (ol + 3))).setCell ⟨w2.heap.size, 3, none⟩ (.slice (some ⟨g5, 0, none⟩) wl (wl + 3))) = w9 := ⟨_, rfl⟩
         have hM9 : WholeV w9 w2.heap.size 27 [.int .i64 fn, .int .i64 ex, .slice (some ⟨g4, 0, none⟩) bl (bl + 3), .slice (some ⟨g5, 0, none⟩) wl (wl + 3), .int .i64 at_, .int .i64 q, .int .u16 v, .int .u16 an, .int .u16 orr, .int .i64 co, .int .i64 le, .bool mo, .int .i64 nx, .slice (some ⟨g6, 0, none⟩) ol (ol + 3)] := by rw [← hw9]; exact (((HM6.out.set 2 (.slice (some ⟨g4, 0, none⟩) bl (bl + 3))).set 13 (.slice (some ⟨g6, 0, none⟩) ol (ol + 3))).set 3 (.slice (some ⟨g5, 0, none⟩) wl (wl + 3)))
         have hb9 : Below w2.heap.size w6 w9 := by rw [← hw9]; exact (((Below.refl w2.heap.size w6).setCell (p := ⟨w2.heap.size, 2, none⟩) (Nat.le_refl _) (.slice (some ⟨g4, 0, none⟩) bl (bl + 3))).setCell (p := ⟨w2.heap.size, 13, none⟩) (Nat.le_refl _) (.slice (some ⟨g6, 0, none⟩) ol (ol + 3))).setCell (p := ⟨w2.heap.size, 3, none⟩) (Nat.le_refl _) (.slice (some ⟨g5, 0, none⟩) wl (wl + 3))
         have h49 : WholeV w9 g4 4 ((bs ++ [true, true, true]).map Value.bool) := by rw [← hw9]; exact (far6 (far6 (far6 HO46.out ⟨w2.heap.size, 2, none⟩ (.slice (some ⟨g4, 0, none⟩) bl (bl + 3)) (by have h1 := HG4.out; have h2 := HG5.out; have h3 := HG6.out; have h4 := HZ3.out; have h5 := HS5.out; show w2.heap.size ≠ g4; omega)) ⟨w2.heap.size, 13, none⟩ (.slice (some ⟨g6, 0, none⟩) ol (ol + 3)) (by have h1 := HG4.out; have h2 := HG5.out; have h3 := HG6.out; have h4 := HZ3.out; have h5 := HS5.out; show w2.heap.size ≠ g4; omega)) ⟨w2.heap.size, 3, none⟩ (.slice (some ⟨g5, 0, none⟩) wl (wl + 3)) (by have h1 := HG4.out; have h2 := HG5.out; have h3 := HG6.out; have h4 := HZ3.out; have h5 := HS5.out; show w2.heap.size ≠ g4; omega))
         have h59 : Whole .u16 w9 g5 24 (ws ++ [42405, 42405, 42405]) := by rw [← hw9]; exact (far6 (far6 (far6 HO56.out ⟨w2.heap.size, 2, none⟩ (.slice (some ⟨g4, 0, none⟩) bl (bl + 3)) (by have h1 := HG4.out; have h2 := HG5.out; have h3 := HG6.out; have h4 := HZ3.out; have h5 := HS5.out; show w2.heap.size ≠ g5; omega)) ⟨w2.heap.size, 13, none⟩ (.slice (some ⟨g6, 0, none⟩) ol (ol + 3)) (by have h1 := HG4.out; have h2 := HG5.out; have h3 := HG6.out; have h4 := HZ3.out; have h5 := HS5.out; show w2.heap.size ≠ g5; omega)) ⟨w2.heap.size, 3, none⟩ (.slice (some ⟨g5, 0, none⟩) wl (wl + 3)) (by have h1 := HG4.out; have h2 := HG5.out; have h3 := HG6.out; have h4 := HZ3.out; have h5 := HS5.out; show w2.heap.size ≠ g5; omega))
         have h69 : WholeV w9 g6 77 (obs (os ++ [obM, obM, obM])) := by rw [← hw9]; exact (far6 (far6 (far6 HO6.out ⟨w2.heap.size, 2, none⟩ (.slice (some ⟨g4, 0, none⟩) bl (bl + 3)) (by have h1 := HG4.out; have h2 := HG5.out; have h3 := HG6.out; have h4 := HZ3.out; have h5 := HS5.out; show w2.heap.size ≠ g6; omega)) ⟨w2.heap.size, 13, none⟩ (.slice (some ⟨g6, 0, none⟩) ol (ol + 3)) (by have h1 := HG4.out; have h2 := HG5.out; have h3 := HG6.out; have h4 := HZ3.out; have h5 := HS5.out; show w2.heap.size ≠ g6; omega)) ⟨w2.heap.size, 3, none⟩ (.slice (some ⟨g5, 0, none⟩) wl (wl + 3)) (by have h1 := HG4.out; have h2 := HG5.out; have h3 := HG6.out; have h4 := HZ3.out; have h5 := HS5.out; show w2.heap.size ≠ g6; omega))
         rw [hw9]
         clear hw9)
      | (obtain ⟨w9, hw9⟩ : ∃ w9, (((w6.setCell ⟨w2.heap.size, 3, none⟩ (.slice (some ⟨g5, 0, none⟩) wl (wl + 3))).setCell ⟨w2.heap.size, 2, none⟩ (.slice (some ⟨g4, 0, none⟩) bl (bl + 3))).setCell ⟨w2.heap.size, 13, none⟩ (.slice (some ⟨g6, 0, none⟩) ol (ol + 3))) = w9 := ⟨_, rfl⟩
         have hM9 : WholeV w9 w2.heap.size 27 [.int .i64 fn, .int .i64 ex, .slice (some ⟨g4, 0, none⟩) bl (bl + 3), .slice (some ⟨g5, 0, none⟩) wl (wl + 3), .int .i64 at_, .int .i64 q, .int .u16 v, .int .u16 an, .int .u16 orr, .int .i64 co, .int .i64 le, .bool mo, .int .i64 nx, .slice (some ⟨g6, 0, none⟩) ol (ol + 3)] := by rw [← hw9]; exact (((HM6.out.set 3 (.slice (some ⟨g5, 0, none⟩) wl (wl + 3))).set 2 (.slice (some ⟨g4, 0, none⟩) bl (bl + 3))).set 13 (.slice (some ⟨g6, 0, none⟩) ol (ol + 3)))
         have hb9 : Below w2.heap.size w6 w9 := by rw [← hw9]; exact (((Below.refl w2.heap.size w6).setCell (p := ⟨w2.heap.size, 3, none⟩) (Nat.le_refl _) (.slice (some ⟨g5, 0, none⟩) wl (wl + 3))).setCell (p := ⟨w2.heap.size, 2, none⟩) (Nat.le_refl _) (.slice (some ⟨g4, 0, none⟩) bl (bl + 3))).setCell (p := ⟨w2.heap.size, 13, none⟩) (Nat.le_refl _) (.slice (some ⟨g6, 0, none⟩) ol (ol + 3))
         have h49 : WholeV w9 g4 4 ((bs ++ [true, true, true]).map Value.bool) := by rw [← hw9]; exact (far6 (far6 (far6 HO46.out ⟨w2.heap.size, 3, none⟩ (.slice (some ⟨g5, 0, none⟩) wl (wl + 3)) (by have h1 := HG4.out; have h2 := HG5.out; have h3 := HG6.out; have h4 := HZ3.out; have h5 := HS5.out; show w2.heap.size ≠ g4; omega)) ⟨w2.heap.size, 2, none⟩ (.slice (some ⟨g4, 0, none⟩) bl (bl + 3)) (by have h1 := HG4.out; have h2 := HG5.out; have h3 := HG6.out; have h4 := HZ3.out; have h5 := HS5.out; show w2.heap.size ≠ g4; omega)) ⟨w2.heap.size, 13, none⟩ (.slice (some ⟨g6, 0, none⟩) ol (ol + 3)) (by have h1 := HG4.out; have h2 := HG5.out; have h3 := HG6.out; have h4 := HZ3.out; have h5 := HS5.out; show w2.heap.size ≠ g4; omega))
         have h59 : Whole .u16 w9 g5 24 (ws ++ [42405, 42405, 42405]) := by rw [← hw9]; exact (far6 (far6 (far6 HO56.out ⟨w2.heap.size, 3, none⟩ (.slice (some ⟨g5, 0, none⟩) wl (wl + 3)) (by have h1 := HG4.out; have h2 := HG5.out; have h3 := HG6.out; have h4 := HZ3.out; have h5 := HS5.out; show w2.heap.size ≠ g5; omega)) ⟨w2.heap.size, 2, none⟩ (.slice (some ⟨g4, 0, none⟩) bl (bl + 3)) (by have h1 := HG4.out; have h2 := HG5.out; have h3 := HG6.out; have h4 := HZ3.out; have h5 := HS5.out; show w2.heap.size ≠ g5; omega)) ⟨w2.heap.size, 13, none⟩ (.slice (some ⟨g6, 0, none⟩) ol (ol + 3)) (by have h1 := HG4.out; have h2 := HG5.out; have h3 := HG6.out; have h4 := HZ3.out; have h5 := HS5.out; show w2.heap.size ≠ g5; omega))
         have h69 : WholeV w9 g6 77 (obs (os ++ [obM, obM, obM])) := by rw [← hw9]; exact (far6 (far6 (far6 HO6.out ⟨w2.heap.size, 3, none⟩ (.slice (some ⟨g5, 0, none⟩) wl (wl + 3)) (by have h1 := HG4.out; have h2 := HG5.out; have h3 := HG6.out; have h4 := HZ3.out; have h5 := HS5.out; show w2.heap.size ≠ g6; omega)) ⟨w2.heap.size, 2, none⟩ (.slice (some ⟨g4, 0, none⟩) bl (bl + 3)) (by have h1 := HG4.out; have h2 := HG5.out; have h3 := HG6.out; have h4 := HZ3.out; have h5 := HS5.out; show w2.heap.size ≠ g6; omega)) ⟨w2.heap.size, 13, none⟩ (.slice (some ⟨g6, 0, none⟩) ol (ol + 3)) (by have h1 := HG4.out; have h2 := HG5.out; have h3 := HG6.out; have h4 := HZ3.out; have h5 := HS5.out; show w2.heap.size ≠ g6; omega))
         rw [hw9]
         clear hw9)
      | (obtain ⟨w9, hw9⟩ : ∃ w9, (((w6.setCell ⟨w2.heap.size, 3, none⟩ (.slice (some ⟨g5, 0, none⟩) wl (wl + 3))).setCell ⟨w2.heap.size, 13, none⟩ (.slice (some ⟨g6, 0, none⟩) ol (ol + 3))).setCell ⟨w2.heap.size, 2, none⟩ (.slice (some ⟨g4, 0, none⟩) bl (bl + 3))) = w9 := ⟨_, rfl⟩
         have hM9 : WholeV w9 w2.heap.size 27 [.int .i64 fn, .int .i64 ex, .slice (some ⟨g4, 0, none⟩) bl (bl + 3), .slice (some ⟨g5, 0, none⟩) wl (wl + 3), .int .i64 at_, .int .i64 q, .int .u16 v, .int .u16 an, .int .u16 orr, .int .i64 co, .int .i64 le, .bool mo, .int .i64 nx, .slice (some ⟨g6, 0, none⟩) ol (ol + 3)] := by rw [← hw9]; exact (((HM6.out.set 3 (.slice (some ⟨g5, 0, none⟩) wl (wl + 3))).set 13 (.slice (some ⟨g6, 0, none⟩) ol (ol + 3))).set 2 (.slice (some ⟨g4, 0, none⟩) bl (bl + 3)))
         have hb9 : Below w2.heap.size w6 w9 := by rw [← hw9]; exact (((Below.refl w2.heap.size w6).setCell (p := ⟨w2.heap.size, 3, none⟩) (Nat.le_refl _) (.slice (some ⟨g5, 0, none⟩) wl (wl + 3))).setCell (p := ⟨w2.heap.size, 13, none⟩) (Nat.le_refl _) (.slice (some ⟨g6, 0, none⟩) ol (ol + 3))).setCell (p := ⟨w2.heap.size, 2, none⟩) (Nat.le_refl _) (.slice (some ⟨g4, 0, none⟩) bl (bl + 3))
         have h49 : WholeV w9 g4 4 ((bs ++ [true, true, true]).map Value.bool) := by rw [← hw9]; exact (far6 (far6 (far6 HO46.out ⟨w2.heap.size, 3, none⟩ (.slice (some ⟨g5, 0, none⟩) wl (wl + 3)) (by have h1 := HG4.out; have h2 := HG5.out; have h3 := HG6.out; have h4 := HZ3.out; have h5 := HS5.out; show w2.heap.size ≠ g4; omega)) ⟨w2.heap.size, 13, none⟩ (.slice (some ⟨g6, 0, none⟩) ol (ol + 3)) (by have h1 := HG4.out; have h2 := HG5.out; have h3 := HG6.out; have h4 := HZ3.out; have h5 := HS5.out; show w2.heap.size ≠ g4; omega)) ⟨w2.heap.size, 2, none⟩ (.slice (some ⟨g4, 0, none⟩) bl (bl + 3)) (by have h1 := HG4.out; have h2 := HG5.out; have h3 := HG6.out; have h4 := HZ3.out; have h5 := HS5.out; show w2.heap.size ≠ g4; omega))
         have h59 : Whole .u16 w9 g5 24 (ws ++ [42405, 42405, 42405]) := by rw [← hw9]; exact (far6 (far6 (far6 HO56.out ⟨w2.heap.size, 3, none⟩ (.slice (some ⟨g5, 0, none⟩) wl (wl + 3)) (by have h1 := HG4.out; have h2 := HG5.out; have h3 := HG6.out; have h4 := HZ3.out; have h5 := HS5.out; show w2.heap.size ≠ g5; omega)) ⟨w2.heap.size, 13, none⟩ (.slice (some ⟨g6, 0, none⟩) ol (ol + 3)) (by have h1 := HG4.out; have h2 := HG5.out; have h3 := HG6.out; have h4 := HZ3.out; have h5 := HS5.out; show w2.heap.size ≠ g5; omega)) ⟨w2.heap.size, 2, none⟩ (.slice (some ⟨g4, 0, none⟩) bl (bl + 3)) (by have h1 := HG4.out; have h2 := HG5.out; have h3 := HG6.out; have h4 := HZ3.out; have h5 := HS5.out; show w2.heap.size ≠ g5; omega))
         have h69 : WholeV w9 g6 77 (obs (os ++ [obM, obM, obM])) := by rw [← hw9]; exact (far6 (far6 (far6 HO6.out ⟨w2.heap.size, 3, none⟩ (.slice (some ⟨g5, 0, none⟩) wl (wl + 3)) (by have h1 := HG4.out; have h2 := HG5.out; have h3 := HG6.out; have h4 := HZ3.out; have h5 := HS5.out; show w2.heap.size ≠ g6; omega)) ⟨w2.heap.size, 13, none⟩ (.slice (some ⟨g6, 0, none⟩) ol (ol + 3)) (by have h1 := HG4.out; have h2 := HG5.out; have h3 := HG6.out; have h4 := HZ3.out; have h5 := HS5.out; show w2.heap.size ≠ g6; omega)) ⟨w2.heap.size, 2, none⟩ (.slice (some ⟨g4, 0, none⟩) bl (bl + 3)) (by have h1 := HG4.out; have h2 := HG5.out; have h3 := HG6.out; have h4 := HZ3.out; have h5 := HS5.out; show w2.heap.size ≠ g6; omega))
         rw [hw9]
         clear hw9)
      | (obtain ⟨w9, hw9⟩ : ∃ w9, (((w6.setCell ⟨w2.heap.size, 13, none⟩ (.slice (some ⟨g6, 0, none⟩) ol (ol + 3))).setCell ⟨w2.heap.size, 2, none⟩ (.slice (some ⟨g4, 0, none⟩) bl (bl + 3))).setCell ⟨w2.heap.size, 3, none⟩ (.slice (some ⟨g5, 0, none⟩) wl (wl + 3))) = w9 := ⟨_, rfl⟩
         have hM9 : WholeV w9 w2.heap.size 27 [.int .i64 fn, .int .i64 ex, .slice (some ⟨g4, 0, none⟩) bl (bl + 3), .slice (some ⟨g5, 0, none⟩) wl (wl + 3), .int .i64 at_, .int .i64 q, .int .u16 v, .int .u16 an, .int .u16 orr, .int .i64 co, .int .i64 le, .bool mo, .int .i64 nx, .slice (some ⟨g6, 0, none⟩) ol (ol + 3)] := by rw [← hw9]; exact (((HM6.out.set 13 (.slice (some ⟨g6, 0, none⟩) ol (ol + 3))).set 2 (.slice (some ⟨g4, 0, none⟩) bl (bl + 3))).set 3 (.slice (some ⟨g5, 0, none⟩) wl (wl + 3)))
         have hb9 : Below w2.heap.size w6 w9 := by rw [← hw9]; exact (((Below.refl w2.heap.size w6).setCell (p := ⟨w2.heap.size, 13, none⟩) (Nat.le_refl _) (.slice (some ⟨g6, 0, none⟩) ol (ol + 3))).setCell (p := ⟨w2.heap.size, 2, none⟩) (Nat.le_refl _) (.slice (some ⟨g4, 0, none⟩) bl (bl + 3))).setCell (p := ⟨w2.heap.size, 3, none⟩) (Nat.le_refl _) (.slice (some ⟨g5, 0, none⟩) wl (wl + 3))
         have h49 : WholeV w9 g4 4 ((bs ++ [true, true, true]).map Value.bool) := by rw [← hw9]; exact (far6 (far6 (far6 HO46.out ⟨w2.heap.size, 13, none⟩ (.slice (some ⟨g6, 0, none⟩) ol (ol + 3)) (by have h1 := HG4.out; have h2 := HG5.out; have h3 := HG6.out; have h4 := HZ3.out; have h5 := HS5.out; show w2.heap.size ≠ g4; omega)) ⟨w2.heap.size, 2, none⟩ (.slice (some ⟨g4, 0, none⟩) bl (bl + 3)) (by have h1 := HG4.out; have h2 := HG5.out; have h3 := HG6.out; have h4 := HZ3.out; have h5 := HS5.out; show w2.heap.size ≠ g4; omega)) ⟨w2.heap.size, 3, none⟩ (.slice (some ⟨g5, 0, none⟩) wl (wl + 3)) (by have h1 := HG4.out; have h2 := HG5.out; have h3 := HG6.out; have h4 := HZ3.out; have h5 := HS5.out; show w2.heap.size ≠ g4; omega))
         have h59 : Whole .u16 w9 g5 24 (ws ++ [42405, 42405, 42405]) := by rw [← hw9]; exact (far6 (far6 (far6 HO56.out ⟨w2.heap.size, 13, none⟩ (.slice (some ⟨g6, 0, none⟩) ol (ol + 3)) (by have h1 := HG4.out; have h2 := HG5.out; have h3 := HG6.out; have h4 := HZ3.out; have h5 := HS5.out; show w2.heap.size ≠ g5; omega)) ⟨w2.heap.size, 2, none⟩ (.slice (some ⟨g4, 0, none⟩) bl (bl + 3)) (by have h1 := HG4.out; have h2 := HG5.out; have h3 := HG6.out; have h4 := HZ3.out; have h5 := HS5.out; show w2.heap.size ≠ g5; omega)) ⟨w2.heap.size, 3, none⟩ (.slice (some ⟨g5, 0, none⟩) wl (wl + 3)) (by have h1 := HG4.out; have h2 := HG5.out; have h3 := HG6.out; have h4 := HZ3.out; have h5 := HS5.out; show w2.heap.size ≠ g5; omega))
         have h69 : WholeV w9 g6 77 (obs (os ++ [obM, obM, obM])) := by rw [← hw9]; exact (far6 (far6 (far6 HO6.out ⟨w2.heap.size, 13, none⟩ (.slice (some ⟨g6, 0, none⟩) ol (ol + 3)) (by have h1 := HG4.out; have h2 := HG5.out; have h3 := HG6.out; have h4 := HZ3.out; have h5 := HS5.out; show w2.heap.size ≠ g6; omega)) ⟨w2.heap.size, 2, none⟩ (.slice (some ⟨g4, 0, none⟩) bl (bl + 3)) (by have h1 := HG4.out; have h2 := HG5.out; have h3 := HG6.out; have h4 := HZ3.out; have h5 := HS5.out; show w2.heap.size ≠ g6; omega)) ⟨w2.heap.size, 3, none⟩ (.slice (some ⟨g5, 0, none⟩) wl (wl + 3)) (by have h1 := HG4.out; have h2 := HG5.out; have h3 := HG6.out; have h4 := HZ3.out; have h5 := HS5.out; show w2.heap.size ≠ g6; omega))
         rw [hw9]
         clear hw9)
      | (obtain ⟨w9, hw9⟩ : ∃ w9, (((w6.setCell ⟨w2.heap.size, 13, none⟩ (.slice (some ⟨g6, 0, none⟩) ol (ol + 3))).setCell ⟨w2.heap.size, 3, none⟩ (.slice (some ⟨g5, 0, none⟩) wl (wl + 3))).setCell ⟨w2.heap.size, 2, none⟩ (.slice (some ⟨g4, 0, none⟩) bl (bl + 3))) = w9 := ⟨_, rfl⟩
         have hM9 : WholeV w9 w2.heap.size 27 [.int .i64 fn, .int .i64 ex, .slice (some ⟨g4, 0, none⟩) bl (bl + 3), .slice (some ⟨g5, 0, none⟩) wl (wl + 3), .int .i64 at_, .int .i64 q, .int .u16 v, .int .u16 an, .int .u16 orr, .int .i64 co, .int .i64 le, .bool mo, .int .i64 nx, .slice (some ⟨g6, 0, none⟩) ol (ol + 3)] := by rw [← hw9]; exact (((HM6.out.set 13 (.slice (some ⟨g6, 0, none⟩) ol (ol + 3))).set 3 (.slice (some ⟨g5, 0, none⟩) wl (wl + 3))).set 2 (.slice (some ⟨g4, 0, none⟩) bl (bl + 3)))
         have hb9 : Below w2.heap.size w6 w9 := by rw [← hw9]; exact (((Below.refl w2.heap.size w6).setCell (p := ⟨w2.heap.size, 13, none⟩) (Nat.le_refl _) (.slice (some ⟨g6, 0, none⟩) ol (ol + 3))).setCell (p := ⟨w2.heap.size, 3, none⟩) (Nat.le_refl _) (.slice (some ⟨g5, 0, none⟩) wl (wl + 3))).setCell (p := ⟨w2.heap.size, 2, none⟩) (Nat.le_refl _) (.slice (some ⟨g4, 0, none⟩) bl (bl + 3))
         have h49 : WholeV w9 g4 4 ((bs ++ [true, true, true]).map Value.bool) := by rw [← hw9]; exact (far6 (far6 (far6 HO46.out ⟨w2.heap.size, 13, none⟩ (.slice (some ⟨g6, 0, none⟩) ol (ol + 3)) (by have h1 := HG4.out; have h2 := HG5.out; have h3 := HG6.out; have h4 := HZ3.out; have h5 := HS5.out; show w2.heap.size ≠ g4; omega)) ⟨w2.heap.size, 3, none⟩ (.slice (some ⟨g5, 0, none⟩) wl (wl + 3)) (by have h1 := HG4.out; have h2 := HG5.out; have h3 := HG6.out; have h4 := HZ3.out; have h5 := HS5.out; show w2.heap.size ≠ g4; omega)) ⟨w2.heap.size, 2, none⟩ (.slice (some ⟨g4, 0, none⟩) bl (bl + 3)) (by have h1 := HG4.out; have h2 := HG5.out; have h3 := HG6.out; have h4 := HZ3.out; have h5 := HS5.out; show w2.heap.size ≠ g4; omega))
         have h59 : Whole .u16 w9 g5 24 (ws ++ [42405, 42405, 42405]) := by rw [← hw9]; exact (far6 (far6 (far6 HO56.out ⟨w2.heap.size, 13, none⟩ (.slice (some ⟨g6, 0, none⟩) ol (ol + 3)) (by have h1 := HG4.out; have h2 := HG5.out; have h3 := HG6.out; have h4 := HZ3.out; have h5 := HS5.out; show w2.heap.size ≠ g5; omega)) ⟨w2.heap.size, 3, none⟩ (.slice (some ⟨g5, 0, none⟩) wl (wl + 3)) (by have h1 := HG4.out; have h2 := HG5.out; have h3 := HG6.out; have h4 := HZ3.out; have h5 := HS5.out; show w2.heap.size ≠ g5; omega)) ⟨w2.heap.size, 2, none⟩ (.slice (some ⟨g4, 0, none⟩) bl (bl + 3)) (by have h1 := HG4.out; have h2 := HG5.out; have h3 := HG6.out; have h4 := HZ3.out; have h5 := HS5.out; show w2.heap.size ≠ g5; omega))
         have h69 : WholeV w9 g6 77 (obs (os ++ [obM, obM, obM])) := by rw [← hw9]; exact (far6 (far6 (far6 HO6.out ⟨w2.heap.size, 13, none⟩ (.slice (some ⟨g6, 0, none⟩) ol (ol + 3)) (by have h1 := HG4.out; have h2 := HG5.out; have h3 := HG6.out; have h4 := HZ3.out; have h5 := HS5.out; show w2.heap.size ≠ g6; omega)) ⟨w2.heap.size, 3, none⟩ (.slice (some ⟨g5, 0, none⟩) wl (wl + 3)) (by have h1 := HG4.out; have h2 := HG5.out; have h3 := HG6.out; have h4 := HZ3.out; have h5 := HS5.out; show w2.heap.size ≠ g6; omega)) ⟨w2.heap.size, 2, none⟩ (.slice (some ⟨g4, 0, none⟩) bl (bl + 3)) (by have h1 := HG4.out; have h2 := HG5.out; have h3 := HG6.out; have h4 := HZ3.out; have h5 := HS5.out; show w2.heap.size ≠ g6; omega))
         rw [hw9]
         clear hw9)
    have HM9 := Lib.hid hM9
    have HX9 := Lib.hid ((HX3.out.below HB6.out HX3.out.lt).below hb9 hlt2)
    have HB9 : Hid (Below w.heap.size w w9) := (HB3.out.trans (HB6.out.mono HB3.out.size)).trans (hb9.mono (Nat.le_of_lt hlt2))
    have H49 := Lib.hid h49
    have H59 := Lib.hid h59
    have H69 := Lib.hid h69
    clear hM9 hb9 h49 h59 h69 mz2 mz3 mz13 mf2 mf3 mf13
    have HBB : Hid (BRow w9 w9.heap.size (some ⟨g4, 0, none⟩) bl bs) := by
      have h := H49.out.row
      rw [List.length_map, List.length_append, (HBR.out _ HB9.out).1] at h
      exact h.bools.front (HBR.out _ HB9.out).1
    have HWW : Hid (Row .u16 w9 w9.heap.size (some ⟨g5, 0, none⟩) wl ws) := by
      have h := H59.out.row
      rw [List.length_append, (HWR.out _ HB9.out).1] at h
      exact h.front (HWR.out _ HB9.out).1
    have HOO : Hid (OL w9 w9.heap.size (some ⟨g6, 0, none⟩) ol os) := ol_front H69.out HLO.out
    have C10 := Lib.hid (HP.out w9 _ _ _ (bl + 3) (wl + 3) (ol + 3) HBB.out HWW.out HOO.out)
    have hlt9 : w.heap.size < w9.heap.size := HX9.out.lt
    have hlt9' : w2.heap.size < w9.heap.size := HM9.out.lt
    obtain ⟨ma0, ma1, ma2, ma3, ma4, ma5, ma6, ma7, ma8, ma9, ma10, ma11, ma12, ma13⟩ := cells14 HM9.out
    obtain ⟨xb0, xb1, xb2, xb3, xb4, xb5, xb6, xb7, xb8, xb9, xb10, xb11, xb12, xb13⟩ := cells14 HX9.out
    go_wp2_with fail
    (with_reducible refine C10.out.mono ?_)
    rintro e w10 ⟨R10, r10, rfl, hr10, hb10⟩
    have HR10 := Lib.hid hr10
    have HB10 := Lib.hid hb10
    have HM10 := Lib.hid (HM9.out.below hb10 HM9.out.lt)
    have HX10 := Lib.hid (HX9.out.below hb10 HX9.out.lt)
    have HBx := Lib.hid (HB9.out.trans (hb10.mono HB9.out.size))
    have C11 := Lib.hid (HR.out w10 BA WA OA bc wc oc (HBR.out _ HBx.out) (HWR.out _ HBx.out) (HOL.out _ HBx.out))
    clear hr10 hb10 ma0 ma1 ma2 ma3 ma4 ma5 ma6 ma7 ma8 ma9 ma10 ma11 ma12 ma13 xb0 xb1 xb2 xb3 xb4 xb5 xb6 xb7 xb8 xb9 xb10 xb11 xb12 xb13
    obtain ⟨mb0, mb1, mb2, mb3, mb4, mb5, mb6, mb7, mb8, mb9, mb10, mb11, mb12, mb13⟩ := cells14 HM10.out
    obtain ⟨xc0, xc1, xc2, xc3, xc4, xc5, xc6, xc7, xc8, xc9, xc10, xc11, xc12, xc13⟩ := cells14 HX10.out
    go_wp2_with fail
    (with_reducible refine C11.out.mono ?_)
    rintro e w11 ⟨R11, r11, rfl, hr11, hb11⟩
    have HR11 := Lib.hid hr11
    have HR10b := Lib.hid ((HR10.out.below hb11).more hb11.size)
    have HM11 := Lib.hid (HM10.out.below hb11 HM10.out.lt)
    have HX11 := Lib.hid (HX10.out.below hb11 HX10.out.lt)
    have HB11 := Lib.hid (HBx.out.trans (hb11.mono HBx.out.size))
    have HB9b : Hid (Below w9.heap.size w9 w11) := HB10.out.trans (hb11.mono HB10.out.size)
    clear hr11 hb11 mb0 mb1 mb2 mb3 mb4 mb5 mb6 mb7 mb8 mb9 mb10 mb11 mb12 mb13 xc0 xc1 xc2 xc3 xc4 xc5 xc6 xc7 xc8 xc9 xc10 xc11 xc12 xc13
    obtain ⟨XS, hXS⟩ : ∃ XS, strOfNums X = XS := ⟨_, rfl⟩
    obtain ⟨bb, hbb⟩ : ∃ bb, decide (tellP fn ex bl wl at_ q v an orr co le mo.toNat nx ol (decide (fitP os)).toNat) = bb := ⟨_, rfl⟩
    have CR1 : Hid (∀ Z, Below w11.heap.size w11 Z → Calls Try.prog 17 #[.agg #[.int .i64 fn, .int .i64 ex, .slice (some ⟨g4, 0, none⟩) bl (bl + 3), .slice (some ⟨g5, 0, none⟩) wl (wl + 3), .int .i64 at_, .int .i64 q, .int .u16 v, .int .u16 an, .int .u16 orr, .int .i64 co, .int .i64 le, .bool mo, .int .i64 nx, .slice (some ⟨g6, 0, none⟩) ol (ol + 3)]] Z fun e w' => e = .returned (.bool bb) ∧ Below Z.heap.size Z w') := by
      intro Z hZ
      have hO : OL Z Z.heap.size (some ⟨g6, 0, none⟩) ol os := HOO.out.below (HB9b.out.trans (hZ.mono HB9b.out.size))
      exact ptr_any fn ex bl wl at_ q v an orr co le mo nx ol _ _ _ (bl + 3) (wl + 3) (ol + 3) Z _ bb HW.out (fits_any _ ol (ol + 3) os Z _ hO (by omega) HZ.out rfl) hbb
    have CR2 : Hid (∀ Z, Below w11.heap.size w11 Z → Calls Try.prog 18 #[.agg #[.int .i64 fn, .int .i64 ex, .slice BA bl bc, .slice WA wl wc, .int .i64 at_, .int .i64 q, .int .u16 v, .int .u16 an, .int .u16 orr, .int .i64 co, .int .i64 le, .bool mo, .int .i64 nx, .slice OA ol oc]] Z fun e w' => e = .returned (.bool bb) ∧ Below Z.heap.size Z w') := by
      intro Z hZ
      have h := rtells_any fn ex bl wl at_ q v an orr co le mo nx ol BA WA OA bc wc oc _ Z os HW.out.v0 (HOL.out _ (HB11.out.trans (hZ.mono HB11.out.size))) (by omega) HZ.out rfl
      rwa [hbb] at h
    have CS1 : Hid (∀ Z, Below w11.heap.size w11 Z → Calls Try.prog 19 #[.slice (some ⟨g4, 0, none⟩) bl (bl + 3), .slice BA bl bc] Z (Quiet (.bool true) Z)) := fun Z hZ =>
      staysbits_any BA bl bc g4 bs Z (HBR.out _ (HB11.out.trans (hZ.mono HB11.out.size))) (H49.out.below (HB9b.out.trans (hZ.mono HB9b.out.size)) H49.out.lt) (by omega)
    have CS2 : Hid (∀ Z, Below w11.heap.size w11 Z → Calls Try.prog 20 #[.slice (some ⟨g5, 0, none⟩) wl (wl + 3), .slice WA wl wc] Z (Quiet (.bool true) Z)) := fun Z hZ =>
      staysw_any WA wl wc g5 ws Z (HWR.out _ (HB11.out.trans (hZ.mono HB11.out.size))) (H59.out.below (HB9b.out.trans (hZ.mono HB9b.out.size)) H59.out.lt) (by omega)
    have CS3 : Hid (∀ Z, Below w11.heap.size w11 Z → Calls Try.prog 21 #[.slice (some ⟨g6, 0, none⟩) ol (ol + 3), .slice OA ol oc] Z (Quiet (.bool true) Z)) := fun Z hZ =>
      staysobjs_any OA ol oc g6 os Z (HOL.out _ (HB11.out.trans (hZ.mono HB11.out.size))) (H69.out.below (HB9b.out.trans (hZ.mono HB9b.out.size)) H69.out.lt) (by omega)
    have KS : Hid (∀ Z, Below w11.heap.size w11 Z → Z.cell? ⟨w2.heap.size, 0, none⟩ = some (.int .i64 fn) ∧ Z.cell? ⟨w2.heap.size, 1, none⟩ = some (.int .i64 ex) ∧ Z.cell? ⟨w2.heap.size, 2, none⟩ = some (.slice (some ⟨g4, 0, none⟩) bl (bl + 3)) ∧ Z.cell? ⟨w2.heap.size, 3, none⟩ = some (.slice (some ⟨g5, 0, none⟩) wl (wl + 3)) ∧ Z.cell? ⟨w2.heap.size, 4, none⟩ = some (.int .i64 at_) ∧ Z.cell? ⟨w2.heap.size, 5, none⟩ = some (.int .i64 q) ∧ Z.cell? ⟨w2.heap.size, 6, none⟩ = some (.int .u16 v) ∧ Z.cell? ⟨w2.heap.size, 7, none⟩ = some (.int .u16 an) ∧ Z.cell? ⟨w2.heap.size, 8, none⟩ = some (.int .u16 orr) ∧ Z.cell? ⟨w2.heap.size, 9, none⟩ = some (.int .i64 co) ∧ Z.cell? ⟨w2.heap.size, 10, none⟩ = some (.int .i64 le) ∧ Z.cell? ⟨w2.heap.size, 11, none⟩ = some (.bool mo) ∧ Z.cell? ⟨w2.heap.size, 12, none⟩ = some (.int .i64 nx) ∧ Z.cell? ⟨w2.heap.size, 13, none⟩ = some (.slice (some ⟨g6, 0, none⟩) ol (ol + 3)) ∧ Z.cell? ⟨w.heap.size, 0, none⟩ = some (.int .i64 fn) ∧ Z.cell? ⟨w.heap.size, 1, none⟩ = some (.int .i64 ex) ∧ Z.cell? ⟨w.heap.size, 2, none⟩ = some (.slice BA bl bc) ∧ Z.cell? ⟨w.heap.size, 3, none⟩ = some (.slice WA wl wc) ∧ Z.cell? ⟨w.heap.size, 4, none⟩ = some (.int .i64 at_) ∧ Z.cell? ⟨w.heap.size, 5, none⟩ = some (.int .i64 q) ∧ Z.cell? ⟨w.heap.size, 6, none⟩ = some (.int .u16 v) ∧ Z.cell? ⟨w.heap.size, 7, none⟩ = some (.int .u16 an) ∧ Z.cell? ⟨w.heap.size, 8, none⟩ = some (.int .u16 orr) ∧ Z.cell? ⟨w.heap.size, 9, none⟩ = some (.int .i64 co) ∧ Z.cell? ⟨w.heap.size, 10, none⟩ = some (.int .i64 le) ∧ Z.cell? ⟨w.heap.size, 11, none⟩ = some (.bool mo) ∧ Z.cell? ⟨w.heap.size, 12, none⟩ = some (.int .i64 nx) ∧ Z.cell? ⟨w.heap.size, 13, none⟩ = some (.slice OA ol oc) ∧ (convert 33 9 (.slice R10 N r10)).run Try.prog Z = .ok (.string XS) Z ∧ (convert 33 9 (.slice R11 N r11)).run Try.prog Z = .ok (.string XS) Z ∧ Below w11.heap.size w11 Z) := by
      intro Z hZ
      obtain ⟨m0, m1, m2, m3, m4, m5, m6, m7, m8, m9, m10, m11, m12, m13⟩ := cells14 (HM11.out.below hZ HM11.out.lt)
      obtain ⟨o0, o1, o2, o3, o4, o5, o6, o7, o8, o9, o10, o11, o12, o13⟩ := cells14 (HX11.out.below hZ HX11.out.lt)
      rw [← hXS]
      exact ⟨m0, m1, m2, m3, m4, m5, m6, m7, m8, m9, m10, m11, m12, m13, o0, o1, o2, o3, o4, o5, o6, o7, o8, o9, o10, o11, o12, o13, conv_row _ _ r10 _ _ ((HR10b.out.below hZ).more hZ.size), conv_row _ _ r11 _ _ ((HR11.out.below hZ).more hZ.size), hZ⟩
    clear hXS hbb
    go_wp2_with fail
    go_region_held3 (fun Z => Z.cell? ⟨w2.heap.size, 0, none⟩ = some (.int .i64 fn) ∧ Z.cell? ⟨w2.heap.size, 1, none⟩ = some (.int .i64 ex) ∧ Z.cell? ⟨w2.heap.size, 2, none⟩ = some (.slice (some ⟨g4, 0, none⟩) bl (bl + 3)) ∧ Z.cell? ⟨w2.heap.size, 3, none⟩ = some (.slice (some ⟨g5, 0, none⟩) wl (wl + 3)) ∧ Z.cell? ⟨w2.heap.size, 4, none⟩ = some (.int .i64 at_) ∧ Z.cell? ⟨w2.heap.size, 5, none⟩ = some (.int .i64 q) ∧ Z.cell? ⟨w2.heap.size, 6, none⟩ = some (.int .u16 v) ∧ Z.cell? ⟨w2.heap.size, 7, none⟩ = some (.int .u16 an) ∧ Z.cell? ⟨w2.heap.size, 8, none⟩ = some (.int .u16 orr) ∧ Z.cell? ⟨w2.heap.size, 9, none⟩ = some (.int .i64 co) ∧ Z.cell? ⟨w2.heap.size, 10, none⟩ = some (.int .i64 le) ∧ Z.cell? ⟨w2.heap.size, 11, none⟩ = some (.bool mo) ∧ Z.cell? ⟨w2.heap.size, 12, none⟩ = some (.int .i64 nx) ∧ Z.cell? ⟨w2.heap.size, 13, none⟩ = some (.slice (some ⟨g6, 0, none⟩) ol (ol + 3)) ∧ Z.cell? ⟨w.heap.size, 0, none⟩ = some (.int .i64 fn) ∧ Z.cell? ⟨w.heap.size, 1, none⟩ = some (.int .i64 ex) ∧ Z.cell? ⟨w.heap.size, 2, none⟩ = some (.slice BA bl bc) ∧ Z.cell? ⟨w.heap.size, 3, none⟩ = some (.slice WA wl wc) ∧ Z.cell? ⟨w.heap.size, 4, none⟩ = some (.int .i64 at_) ∧ Z.cell? ⟨w.heap.size, 5, none⟩ = some (.int .i64 q) ∧ Z.cell? ⟨w.heap.size, 6, none⟩ = some (.int .u16 v) ∧ Z.cell? ⟨w.heap.size, 7, none⟩ = some (.int .u16 an) ∧ Z.cell? ⟨w.heap.size, 8, none⟩ = some (.int .u16 orr) ∧ Z.cell? ⟨w.heap.size, 9, none⟩ = some (.int .i64 co) ∧ Z.cell? ⟨w.heap.size, 10, none⟩ = some (.int .i64 le) ∧ Z.cell? ⟨w.heap.size, 11, none⟩ = some (.bool mo) ∧ Z.cell? ⟨w.heap.size, 12, none⟩ = some (.int .i64 nx) ∧ Z.cell? ⟨w.heap.size, 13, none⟩ = some (.slice OA ol oc) ∧ (convert 33 9 (.slice R10 N r10)).run Try.prog Z = .ok (.string XS) Z ∧ (convert 33 9 (.slice R11 N r11)).run Try.prog Z = .ok (.string XS) Z ∧ Below w11.heap.size w11 Z)
      (first
        | exact KS.out _ (Below.refl _ _).drew
        | exact KS.out _ K13.out
        | exact KS.out _ K12.out
        | exact KS.out _ (below_drewN K13.out _))
      (first
        | (go_at_call 17
           (with_reducible refine (CR1.out _ (Below.refl _ _).drew).mono ?_)
           rintro e w12 ⟨rfl, hb12⟩
           have K12 : Hid (Below w11.heap.size w11 w12) := by first | exact below_from (d := 1) hb12 | exact hb12
           clear hb12)
        | (go_at_call 18
           (with_reducible refine (CR2.out _ K12.out).mono ?_)
           rintro e w13 ⟨rfl, hb13⟩
           have K13 : Hid (Below w11.heap.size w11 w13) := K12.out.trans (hb13.mono K12.out.size)
           clear hb13)
        | (go_at_call 19
           refine (CS1.out _ (by first | exact K13.out | exact below_drewN K13.out _)).mono ?_
           rintro e w14 ⟨rfl, d14, rfl⟩)
        | (go_at_call 20
           refine (CS2.out _ (by first | exact K13.out | exact below_drewN K13.out _)).mono ?_
           rintro e w15 ⟨rfl, d15, rfl⟩)
        | (go_at_call 21
           refine (CS3.out _ (by first | exact K13.out | exact below_drewN K13.out _)).mono ?_
           rintro e w16 ⟨rfl, d16, rfl⟩))
    all_goals
      go_wp2
      go_ret
      exact ⟨rfl, below_drewN (HB11.out.trans (K13.out.mono HB11.out.size)) _⟩

end Go.Proofs.Ytcmnhpogepahgaa

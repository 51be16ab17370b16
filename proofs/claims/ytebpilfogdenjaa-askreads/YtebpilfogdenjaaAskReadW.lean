/- The document's read of a request. -/
import Derived.Test.YtebpilfogdenjaaAskSet
import Derived.Test.YtebpilfogdenjaaAskList2
namespace Go.Proofs.Ytebpilfogdenjaa
open Go.ChangeShapes Go.WideShapes Go.ChangeAt Go.RowKit
set_option linter.unusedVariables false
set_option linter.unusedSimpArgs false

theorem own12 {w : World} {b g : Nat} {e : TypeId} {v : Value} {n : Nat} {xs : List Value} (h : w.ownsRow b e 1 v n xs) (hg : g < b) (b0 b1 b2 b3 b4 b5 b6 b7 b8 b9 b10 b11 : Value) : ((((((((((((w.setCell ⟨g, 0, none⟩ b0).setCell ⟨g, 1, none⟩ b1).setCell ⟨g, 2, none⟩ b2).setCell ⟨g, 3, none⟩ b3).setCell ⟨g, 4, none⟩ b4).setCell ⟨g, 5, none⟩ b5).setCell ⟨g, 6, none⟩ b6).setCell ⟨g, 7, none⟩ b7).setCell ⟨g, 8, none⟩ b8).setCell ⟨g, 9, none⟩ b9).setCell ⟨g, 10, none⟩ b10).setCell ⟨g, 11, none⟩ b11).ownsRow b e 1 v n xs :=
  (own_far (own_far (own_far (own_far (own_far (own_far (own_far (own_far (own_far (own_far (own_far (own_far h ⟨g, 0, none⟩ hg b0) ⟨g, 1, none⟩ hg b1) ⟨g, 2, none⟩ hg b2) ⟨g, 3, none⟩ hg b3) ⟨g, 4, none⟩ hg b4) ⟨g, 5, none⟩ hg b5) ⟨g, 6, none⟩ hg b6) ⟨g, 7, none⟩ hg b7) ⟨g, 8, none⟩ hg b8) ⟨g, 9, none⟩ hg b9) ⟨g, 10, none⟩ hg b10) ⟨g, 11, none⟩ hg b11)

theorem right_lit_AskReadW (fn at_ n v an orr : Int) (bl wl : Nat) (ra rn co ob : Int) (BA WA : Option Addr) (bc wc : Nat) (w : World) (bb : Bool) (h : decide (rightP fn at_ n v an orr bl wl ra rn co ob) = bb) :
    Calls Try.prog 52 #[.agg #[.int .i64 fn, .int .i64 at_, .int .i64 n, .int .u16 v, .int .u16 an, .int .u16 orr, .slice BA bl bc, .slice WA wl wc, .int .i64 ra, .int .i64 rn, .int .i64 co, .int .i64 ob]] w fun e w' => e = .returned (.bool bb) ∧ Below w.heap.size w w' := by
  rw [← h]
  exact rright_any fn at_ n v an orr bl wl ra rn co ob BA WA bc wc w

set_option maxRecDepth 100000 in
set_option maxHeartbeats 4000000 in
theorem rread_16_is (A : Option Addr) (n c : Nat) (zs : List Int) (t : Int) (m : Nat) (w : World) (hr : Row .u8 w w.heap.size A n zs) (hx : Bytes8 zs) (hn : n ≤ 1000) (h1 : 1 ≤ n) (h0 : zs.getD 0 0 = 16) (ht : gotW zs n 1 = t) (hl : gotW zs n 3 = (m : Int)) (hln : n = 6 + 2 * m) (hby : zs.getD 5 0 = 2 * (m : Int)) (bb : Bool) (hrt : decide (rightP 16 t (m : Int) 0 0 0 0 m 0 0 0 0) = bb) :
    Calls Try.prog 25 #[.slice A n c] w fun e w' => ∃ B d, e = .returned (.tuple #[.agg #[.int .i64 16, .int .i64 t, .int .i64 (m : Int), .int .u16 0, .int .u16 0, .int .u16 0, .slice none 0 0, .slice B m d, .int .i64 0, .int .i64 0, .int .i64 0, .int .i64 0], .bool bb]) ∧ w'.ownsRow w.heap.size 26 1 (.slice B m d) m ((wordsAt zs 6 m).map (Value.int .u16)) ∧ Below w.heap.size w w' := by
  obtain ⟨lot, hit⟩ := gotW_bounds hx n 1
  rw [ht] at lot hit
  have hi5 : (5 : Int) < (n : Int) := by omega
  have wm : IntKind.i64.wrap (2 * (m : Int)) = 2 * (m : Int) := IntWalk.i64_in _ (by omega)
  have h6' : ¬ (n : Int) < 6 := by omega
  obtain ⟨b, off, rfl, hb, hcell⟩ := hr.2 (by omega)
  have hc0 : (w.alloc (.cells #[.int .i64 0, .int .i64 0, .int .i64 0, .int .u16 0, .int .u16 0, .int .u16 0, .slice none 0 0, .slice none 0 0, .int .i64 0, .int .i64 0, .int .i64 0, .int .i64 0] 30)).cell? ⟨b, off, none⟩ = some (.int .u8 16) := by
    rw [World.cell?_alloc_lt w _ ⟨b, off, none⟩ hb]
    have := hcell 0 (by omega)
    rw [Nat.add_zero, h0] at this
    exact this
  have hn0 : (0 : Int) < (n : Int) := by omega
  have hkw : Below w.heap.size w ((w.alloc (.cells #[.int .i64 0, .int .i64 0, .int .i64 0, .int .u16 0, .int .u16 0, .int .u16 0, .slice none 0 0, .slice none 0 0, .int .i64 0, .int .i64 0, .int .i64 0, .int .i64 0] 30)).alloc (.cells #[.int .i64 16, .int .i64 0, .int .i64 0, .int .u16 0, .int .u16 0, .int .u16 0, .slice none 0 0, .slice none 0 0, .int .i64 0, .int .i64 0, .int .i64 0, .int .i64 0] 30)) := ((Below.refl _ _).alloc (Nat.le_refl _) _).alloc (by simp) _
  have HKW := Lib.hid hkw
  have HG4 : Hid (WholeV ((w.alloc (.cells #[.int .i64 0, .int .i64 0, .int .i64 0, .int .u16 0, .int .u16 0, .int .u16 0, .slice none 0 0, .slice none 0 0, .int .i64 0, .int .i64 0, .int .i64 0, .int .i64 0] 30)).alloc (.cells #[.int .i64 16, .int .i64 0, .int .i64 0, .int .u16 0, .int .u16 0, .int .u16 0, .slice none 0 0, .slice none 0 0, .int .i64 0, .int .i64 0, .int .i64 0, .int .i64 0] 30)) (w.heap.size + 1) 30 [.int .i64 16, .int .i64 0, .int .i64 0, .int .u16 0, .int .u16 0, .int .u16 0, .slice none 0 0, .slice none 0 0, .int .i64 0, .int .i64 0, .int .i64 0, .int .i64 0]) := by
    have h := heap_alloc_new (w.alloc (.cells #[.int .i64 0, .int .i64 0, .int .i64 0, .int .u16 0, .int .u16 0, .int .u16 0, .slice none 0 0, .slice none 0 0, .int .i64 0, .int .i64 0, .int .i64 0, .int .i64 0] 30)) (.cells #[.int .i64 16, .int .i64 0, .int .i64 0, .int .u16 0, .int .u16 0, .int .u16 0, .slice none 0 0, .slice none 0 0, .int .i64 0, .int .i64 0, .int .i64 0, .int .i64 0] 30)
    rwa [show (w.alloc (.cells #[.int .i64 0, .int .i64 0, .int .i64 0, .int .u16 0, .int .u16 0, .int .u16 0, .slice none 0 0, .slice none 0 0, .int .i64 0, .int .i64 0, .int .i64 0, .int .i64 0] 30)).heap.size = w.heap.size + 1 by simp] at h
  have HG2 : Hid (WholeV ((w.alloc (.cells #[.int .i64 0, .int .i64 0, .int .i64 0, .int .u16 0, .int .u16 0, .int .u16 0, .slice none 0 0, .slice none 0 0, .int .i64 0, .int .i64 0, .int .i64 0, .int .i64 0] 30)).alloc (.cells #[.int .i64 16, .int .i64 0, .int .i64 0, .int .u16 0, .int .u16 0, .int .u16 0, .slice none 0 0, .slice none 0 0, .int .i64 0, .int .i64 0, .int .i64 0, .int .i64 0] 30)) w.heap.size 30 [.int .i64 0, .int .i64 0, .int .i64 0, .int .u16 0, .int .u16 0, .int .u16 0, .slice none 0 0, .slice none 0 0, .int .i64 0, .int .i64 0, .int .i64 0, .int .i64 0]) := by
    have h : WholeV (w.alloc (.cells #[.int .i64 0, .int .i64 0, .int .i64 0, .int .u16 0, .int .u16 0, .int .u16 0, .slice none 0 0, .slice none 0 0, .int .i64 0, .int .i64 0, .int .i64 0, .int .i64 0] 30)) w.heap.size 30 [.int .i64 0, .int .i64 0, .int .i64 0, .int .u16 0, .int .u16 0, .int .u16 0, .slice none 0 0, .slice none 0 0, .int .i64 0, .int .i64 0, .int .i64 0, .int .i64 0] := heap_alloc_new w _
    exact h.below ((Below.refl _ _).alloc (Nat.le_refl _) _) (by simp)
  have HR := Lib.hid ((hr.below hkw).more hkw.size)
  have HX := Lib.hid hx
  have HRG : Hid (∀ X, Below w.heap.size w X → Row .u8 X X.heap.size (some ⟨b, off, none⟩) n zs) := fun X hX => (hr.below hX).more hX.size
  have HCB : Hid (∀ X, Below w.heap.size w X → X.cell? ⟨b, off + 5, none⟩ = some (.int .u8 (2 * (m : Int)))) := fun X hX => by rw [hX.cell hb, hcell 5 (by omega), hby]
  clear hr hx hcell hkw hby
  have Ht := Lib.hid ht
  have Hl := Lib.hid hl
  clear ht hl
  have HRt := Lib.hid hrt
  have hm : m ≤ 500 := by omega
  have HLn := Lib.hid hln
  clear hrt hln
  go_enter Try.func25, Try.ntmps25
  go_wp2_with (first
    | (go_at_call 48; (with_reducible refine (rword_any (some ⟨b, off, none⟩) n c zs 1 t _ Ht.out HR.out HX.out (by omega)).mono ?_); rintro e w' ⟨rfl, d1, rfl⟩)
    | (go_at_call 48; (with_reducible refine (rword_any (some ⟨b, off, none⟩) n c zs 3 (m : Int) _ Hl.out (HR.out.drewN _) HX.out (by omega)).mono ?_); rintro e w' ⟨rfl, d3, rfl⟩)
    | (go_at_call 51
       have hX4 : WholeV (((((w.alloc (.cells #[.int .i64 0, .int .i64 0, .int .i64 0, .int .u16 0, .int .u16 0, .int .u16 0, .slice none 0 0, .slice none 0 0, .int .i64 0, .int .i64 0, .int .i64 0, .int .i64 0] 30)).alloc (.cells #[.int .i64 16, .int .i64 0, .int .i64 0, .int .u16 0, .int .u16 0, .int .u16 0, .slice none 0 0, .slice none 0 0, .int .i64 0, .int .i64 0, .int .i64 0, .int .i64 0] 30)).drewN (d1 + d3)).setCell ⟨w.heap.size + 1, 1, none⟩ (.int .i64 t)).setCell ⟨w.heap.size + 1, 2, none⟩ (.int .i64 (m : Int))) (w.heap.size + 1) 30 [.int .i64 16, .int .i64 t, .int .i64 (m : Int), .int .u16 0, .int .u16 0, .int .u16 0, .slice none 0 0, .slice none 0 0, .int .i64 0, .int .i64 0, .int .i64 0, .int .i64 0] := (((HG4.out.drewN (d1 + d3)).set 1 (.int .i64 t)).set 2 (.int .i64 (m : Int)))
       have hXb : Below (w.heap.size + 1) ((w.alloc (.cells #[.int .i64 0, .int .i64 0, .int .i64 0, .int .u16 0, .int .u16 0, .int .u16 0, .slice none 0 0, .slice none 0 0, .int .i64 0, .int .i64 0, .int .i64 0, .int .i64 0] 30)).alloc (.cells #[.int .i64 16, .int .i64 0, .int .i64 0, .int .u16 0, .int .u16 0, .int .u16 0, .slice none 0 0, .slice none 0 0, .int .i64 0, .int .i64 0, .int .i64 0, .int .i64 0] 30)) (((((w.alloc (.cells #[.int .i64 0, .int .i64 0, .int .i64 0, .int .u16 0, .int .u16 0, .int .u16 0, .slice none 0 0, .slice none 0 0, .int .i64 0, .int .i64 0, .int .i64 0, .int .i64 0] 30)).alloc (.cells #[.int .i64 16, .int .i64 0, .int .i64 0, .int .u16 0, .int .u16 0, .int .u16 0, .slice none 0 0, .slice none 0 0, .int .i64 0, .int .i64 0, .int .i64 0, .int .i64 0] 30)).drewN (d1 + d3)).setCell ⟨w.heap.size + 1, 1, none⟩ (.int .i64 t)).setCell ⟨w.heap.size + 1, 2, none⟩ (.int .i64 (m : Int))) := (((below_drewN (Below.refl (w.heap.size + 1) _) (d1 + d3)).setCell (p := ⟨w.heap.size + 1, 1, none⟩) (Nat.le_refl _) (.int .i64 t)).setCell (p := ⟨w.heap.size + 1, 2, none⟩) (Nat.le_refl _) (.int .i64 (m : Int)))
       refine (rlist_at (some ⟨b, off, none⟩) n c zs 6 m 6 (m : Int) _ rfl rfl (HRG.out _ (HKW.out.trans (hXb.mono (by omega)))) HX.out (by omega) (by omega) HLn.out).mono ?_
       rintro e w4 ⟨B, d, rfl, ho4, hb4⟩
       obtain ⟨sX, hsX⟩ : ∃ sX, ((((((w.alloc (.cells #[.int .i64 0, .int .i64 0, .int .i64 0, .int .u16 0, .int .u16 0, .int .u16 0, .slice none 0 0, .slice none 0 0, .int .i64 0, .int .i64 0, .int .i64 0, .int .i64 0] 30)).alloc (.cells #[.int .i64 16, .int .i64 0, .int .i64 0, .int .u16 0, .int .u16 0, .int .u16 0, .slice none 0 0, .slice none 0 0, .int .i64 0, .int .i64 0, .int .i64 0, .int .i64 0] 30)).drewN (d1 + d3)).setCell ⟨w.heap.size + 1, 1, none⟩ (.int .i64 t)).setCell ⟨w.heap.size + 1, 2, none⟩ (.int .i64 (m : Int)))).heap.size = sX := ⟨_, rfl⟩
       have hX1 : w.heap.size < sX := by rw [← hsX]; exact Nat.lt_of_succ_lt hX4.lt
       have hX2 : w.heap.size + 1 < sX := by rw [← hsX]; exact hX4.lt
       have hx4 := hX4.below hb4 hX4.lt
       have hb4' : Below (w.heap.size + 1) ((w.alloc (.cells #[.int .i64 0, .int .i64 0, .int .i64 0, .int .u16 0, .int .u16 0, .int .u16 0, .slice none 0 0, .slice none 0 0, .int .i64 0, .int .i64 0, .int .i64 0, .int .i64 0] 30)).alloc (.cells #[.int .i64 16, .int .i64 0, .int .i64 0, .int .u16 0, .int .u16 0, .int .u16 0, .slice none 0 0, .slice none 0 0, .int .i64 0, .int .i64 0, .int .i64 0, .int .i64 0] 30)) w4 := hXb.trans (hb4.mono (Nat.le_of_lt hX4.lt))
       rw [hsX] at ho4
       have hc7 : w4.cell? ⟨w.heap.size + 1, 7, none⟩ = some (.slice none 0 0) := hx4.cell 7
       have hf7 := hx4.frozen 7
       have hx5 := hx4.set 7 (.slice B m d)
       have hc2 : (w4.setCell ⟨w.heap.size + 1, 7, none⟩ (.slice B m d)).cell? ⟨w.heap.size + 1, 2, none⟩ = some (.int .i64 (m : Int)) := hx5.cell 2
       have hb5 : Below (w.heap.size + 1) ((w.alloc (.cells #[.int .i64 0, .int .i64 0, .int .i64 0, .int .u16 0, .int .u16 0, .int .u16 0, .slice none 0 0, .slice none 0 0, .int .i64 0, .int .i64 0, .int .i64 0, .int .i64 0] 30)).alloc (.cells #[.int .i64 16, .int .i64 0, .int .i64 0, .int .u16 0, .int .u16 0, .int .u16 0, .slice none 0 0, .slice none 0 0, .int .i64 0, .int .i64 0, .int .i64 0, .int .i64 0] 30)) (w4.setCell ⟨w.heap.size + 1, 7, none⟩ (.slice B m d)) := hb4'.setCell (Nat.le_refl _) _
       have hcb := HCB.out _ (HKW.out.trans (hb5.mono (by omega)))
       have HX5 := Lib.hid hx5
       have HBL := Lib.hid hb5
       have HO5 := Lib.hid (own_far ho4 ⟨w.heap.size + 1, 7, none⟩ hX2 (.slice B m d))
       clear hX4 hXb hsX hx4 hb4' hx5 hb5 ho4 hb4))
  go_quiet (fail)
  all_goals go_wp2
  obtain ⟨w3, hw3⟩ : ∃ w3, ((w4.setCell ⟨w.heap.size + 1, 7, none⟩ (.slice B m d)).drewN nq) = w3 := ⟨_, rfl⟩
  have hbel : Below (w.heap.size + 1) ((w.alloc (.cells #[.int .i64 0, .int .i64 0, .int .i64 0, .int .u16 0, .int .u16 0, .int .u16 0, .slice none 0 0, .slice none 0 0, .int .i64 0, .int .i64 0, .int .i64 0, .int .i64 0] 30)).alloc (.cells #[.int .i64 16, .int .i64 0, .int .i64 0, .int .u16 0, .int .u16 0, .int .u16 0, .slice none 0 0, .slice none 0 0, .int .i64 0, .int .i64 0, .int .i64 0, .int .i64 0] 30)) w3 := by rw [← hw3]; exact (below_drewN HBL.out nq)
  have ha4 : WholeV w3 (w.heap.size + 1) 30 [.int .i64 16, .int .i64 t, .int .i64 (m : Int), .int .u16 0, .int .u16 0, .int .u16 0, .slice none 0 0, .slice B m d, .int .i64 0, .int .i64 0, .int .i64 0, .int .i64 0] := by rw [← hw3]; exact (HX5.out.drewN nq)
  have ha2 : WholeV w3 w.heap.size 30 [.int .i64 0, .int .i64 0, .int .i64 0, .int .u16 0, .int .u16 0, .int .u16 0, .slice none 0 0, .slice none 0 0, .int .i64 0, .int .i64 0, .int .i64 0, .int .i64 0] := HG2.out.below hbel (by omega)
  have hab : Below w.heap.size w w3 := HKW.out.trans (hbel.mono (by omega))
  have hz3 : w.heap.size + 2 ≤ w3.heap.size := ha4.lt
  rw [hw3]
  have HA2 := Lib.hid ha2
  have HAB := Lib.hid hab
  have HO3 : Hid (w3.ownsRow sX 26 1 (.slice B m d) m ((wordsAt zs 6 m).map (Value.int .u16))) := by rw [← hw3]; exact HO5.out
  obtain ⟨hq0, hq1, hq2, hq3, hq4, hq5, hq6, hq7, hq8, hq9, hq10, hq11⟩ := cells12 ha4
  have HA4 := Lib.hid ha4
  clear ha2 ha4 hw3 hbel hab HR HX HRG HCB HG4 HG2 HKW
  go_region_with (first
      | (go_at_call 52
         (with_reducible refine (right_lit_AskReadW 16 t (m : Int) 0 0 0 0 m 0 0 0 0 none B 0 d w3.drew bb HRt.out).mono ?_)
         rintro e w5 ⟨rfl, hb5⟩
         have hb5' := below_from (d := 1) hb5
         have ha5 := HA2.out.below hb5' (show w.heap.size < w3.heap.size by omega)
         obtain ⟨hs0, hs1, hs2, hs3, hs4, hs5, hs6, hs7, hs8, hs9, hs10, hs11⟩ := cells12 ha5
         obtain ⟨hv0, hv1, hv2, hv3, hv4, hv5, hv6, hv7, hv8, hv9, hv10, hv11⟩ := cells12 (HA4.out.below hb5' (show w.heap.size + 1 < w3.heap.size by omega))
         obtain ⟨hg0, hg1, hg2, hg3, hg4, hg5, hg6, hg7, hg8, hg9, hg10, hg11⟩ := frozen12 ha5
         obtain ⟨w9, hw9, hwh, hbb⟩ := set12 ha5 (HAB.out.trans (hb5'.mono HAB.out.size)) (.int .i64 16) (.int .i64 t) (.int .i64 (m : Int)) (.int .u16 0) (.int .u16 0) (.int .u16 0) (.slice none 0 0) (.slice B m d) (.int .i64 0) (.int .i64 0) (.int .i64 0) (.int .i64 0) rfl
         have HE := Lib.hid (cells12 hwh)
         have HBB := Lib.hid hbb
         have HW9 := Lib.hid hw9
         have ho9 := own12 (own_keep HO3.out hb5') hX1 (.int .i64 16) (.int .i64 t) (.int .i64 (m : Int)) (.int .u16 0) (.int .u16 0) (.int .u16 0) (.slice none 0 0) (.slice B m d) (.int .i64 0) (.int .i64 0) (.int .i64 0) (.int .i64 0)
         rw [hw9] at ho9
         have HO9 := Lib.hid ho9
         clear hwh hbb hw9 ha5 hb5' ho9))
  all_goals
    go_wp2
    try rw [HW9.out]
    obtain ⟨he0, he1, he2, he3, he4, he5, he6, he7, he8, he9, he10, he11⟩ := HE.out
    first
      | exact bodyPost_ret (v := .tuple #[.agg #[.int .i64 16, .int .i64 t, .int .i64 (m : Int), .int .u16 0, .int .u16 0, .int .u16 0, .slice none 0 0, .slice B m d, .int .i64 0, .int .i64 0, .int .i64 0, .int .i64 0], .bool bb]) (by simp [results, Try.results25, go_sem, he0, he1, he2, he3, he4, he5, he6, he7, he8, he9, he10, he11]) rfl ⟨_, _, rfl, own_mono HO9.out (Nat.le_of_lt hX1), HBB.out⟩
      | exact bodyPost_ret (v := .tuple #[.agg #[.int .i64 16, .int .i64 t, .int .i64 (m : Int), .int .u16 0, .int .u16 0, .int .u16 0, .slice none 0 0, .slice B m d, .int .i64 0, .int .i64 0, .int .i64 0, .int .i64 0], .bool bb]) (by simp [results, Try.results25, go_sem, he0, he1, he2, he3, he4, he5, he6, he7, he8, he9, he10, he11]) rfl ⟨_, _, rfl, (own_mono HO9.out (Nat.le_of_lt hX1)).drew, HBB.out.drew⟩

set_option maxRecDepth 100000 in
set_option maxHeartbeats 4000000 in
theorem rread_23_is (A : Option Addr) (n c : Nat) (zs : List Int) (p q t : Int) (m : Nat) (w : World) (hr : Row .u8 w w.heap.size A n zs) (hx : Bytes8 zs) (hn : n ≤ 1000) (h1 : 1 ≤ n) (h0 : zs.getD 0 0 = 23) (hp : gotW zs n 1 = p) (hq : gotW zs n 3 = q) (ht : gotW zs n 5 = t) (hl : gotW zs n 7 = (m : Int)) (hln : n = 10 + 2 * m) (hby : zs.getD 9 0 = 2 * (m : Int)) (bb : Bool) (hrt : decide (rightP 23 t (m : Int) 0 0 0 0 m p q 0 0) = bb) :
    Calls Try.prog 25 #[.slice A n c] w fun e w' => ∃ B d, e = .returned (.tuple #[.agg #[.int .i64 23, .int .i64 t, .int .i64 (m : Int), .int .u16 0, .int .u16 0, .int .u16 0, .slice none 0 0, .slice B m d, .int .i64 p, .int .i64 q, .int .i64 0, .int .i64 0], .bool bb]) ∧ w'.ownsRow w.heap.size 26 1 (.slice B m d) m ((wordsAt zs 10 m).map (Value.int .u16)) ∧ Below w.heap.size w w' := by
  obtain ⟨lop, hip⟩ := gotW_bounds hx n 1
  rw [hp] at lop hip
  obtain ⟨loq, hiq⟩ := gotW_bounds hx n 3
  rw [hq] at loq hiq
  obtain ⟨lot, hit⟩ := gotW_bounds hx n 5
  rw [ht] at lot hit
  have hi9 : (9 : Int) < (n : Int) := by omega
  have wm : IntKind.i64.wrap (2 * (m : Int)) = 2 * (m : Int) := IntWalk.i64_in _ (by omega)
  have h6' : ¬ (n : Int) < 10 := by omega
  obtain ⟨b, off, rfl, hb, hcell⟩ := hr.2 (by omega)
  have hc0 : (w.alloc (.cells #[.int .i64 0, .int .i64 0, .int .i64 0, .int .u16 0, .int .u16 0, .int .u16 0, .slice none 0 0, .slice none 0 0, .int .i64 0, .int .i64 0, .int .i64 0, .int .i64 0] 30)).cell? ⟨b, off, none⟩ = some (.int .u8 23) := by
    rw [World.cell?_alloc_lt w _ ⟨b, off, none⟩ hb]
    have := hcell 0 (by omega)
    rw [Nat.add_zero, h0] at this
    exact this
  have hn0 : (0 : Int) < (n : Int) := by omega
  have hkw : Below w.heap.size w ((w.alloc (.cells #[.int .i64 0, .int .i64 0, .int .i64 0, .int .u16 0, .int .u16 0, .int .u16 0, .slice none 0 0, .slice none 0 0, .int .i64 0, .int .i64 0, .int .i64 0, .int .i64 0] 30)).alloc (.cells #[.int .i64 23, .int .i64 0, .int .i64 0, .int .u16 0, .int .u16 0, .int .u16 0, .slice none 0 0, .slice none 0 0, .int .i64 0, .int .i64 0, .int .i64 0, .int .i64 0] 30)) := ((Below.refl _ _).alloc (Nat.le_refl _) _).alloc (by simp) _
  have HKW := Lib.hid hkw
  have HG4 : Hid (WholeV ((w.alloc (.cells #[.int .i64 0, .int .i64 0, .int .i64 0, .int .u16 0, .int .u16 0, .int .u16 0, .slice none 0 0, .slice none 0 0, .int .i64 0, .int .i64 0, .int .i64 0, .int .i64 0] 30)).alloc (.cells #[.int .i64 23, .int .i64 0, .int .i64 0, .int .u16 0, .int .u16 0, .int .u16 0, .slice none 0 0, .slice none 0 0, .int .i64 0, .int .i64 0, .int .i64 0, .int .i64 0] 30)) (w.heap.size + 1) 30 [.int .i64 23, .int .i64 0, .int .i64 0, .int .u16 0, .int .u16 0, .int .u16 0, .slice none 0 0, .slice none 0 0, .int .i64 0, .int .i64 0, .int .i64 0, .int .i64 0]) := by
    have h := heap_alloc_new (w.alloc (.cells #[.int .i64 0, .int .i64 0, .int .i64 0, .int .u16 0, .int .u16 0, .int .u16 0, .slice none 0 0, .slice none 0 0, .int .i64 0, .int .i64 0, .int .i64 0, .int .i64 0] 30)) (.cells #[.int .i64 23, .int .i64 0, .int .i64 0, .int .u16 0, .int .u16 0, .int .u16 0, .slice none 0 0, .slice none 0 0, .int .i64 0, .int .i64 0, .int .i64 0, .int .i64 0] 30)
    rwa [show (w.alloc (.cells #[.int .i64 0, .int .i64 0, .int .i64 0, .int .u16 0, .int .u16 0, .int .u16 0, .slice none 0 0, .slice none 0 0, .int .i64 0, .int .i64 0, .int .i64 0, .int .i64 0] 30)).heap.size = w.heap.size + 1 by simp] at h
  have HG2 : Hid (WholeV ((w.alloc (.cells #[.int .i64 0, .int .i64 0, .int .i64 0, .int .u16 0, .int .u16 0, .int .u16 0, .slice none 0 0, .slice none 0 0, .int .i64 0, .int .i64 0, .int .i64 0, .int .i64 0] 30)).alloc (.cells #[.int .i64 23, .int .i64 0, .int .i64 0, .int .u16 0, .int .u16 0, .int .u16 0, .slice none 0 0, .slice none 0 0, .int .i64 0, .int .i64 0, .int .i64 0, .int .i64 0] 30)) w.heap.size 30 [.int .i64 0, .int .i64 0, .int .i64 0, .int .u16 0, .int .u16 0, .int .u16 0, .slice none 0 0, .slice none 0 0, .int .i64 0, .int .i64 0, .int .i64 0, .int .i64 0]) := by
    have h : WholeV (w.alloc (.cells #[.int .i64 0, .int .i64 0, .int .i64 0, .int .u16 0, .int .u16 0, .int .u16 0, .slice none 0 0, .slice none 0 0, .int .i64 0, .int .i64 0, .int .i64 0, .int .i64 0] 30)) w.heap.size 30 [.int .i64 0, .int .i64 0, .int .i64 0, .int .u16 0, .int .u16 0, .int .u16 0, .slice none 0 0, .slice none 0 0, .int .i64 0, .int .i64 0, .int .i64 0, .int .i64 0] := heap_alloc_new w _
    exact h.below ((Below.refl _ _).alloc (Nat.le_refl _) _) (by simp)
  have HR := Lib.hid ((hr.below hkw).more hkw.size)
  have HX := Lib.hid hx
  have HRG : Hid (∀ X, Below w.heap.size w X → Row .u8 X X.heap.size (some ⟨b, off, none⟩) n zs) := fun X hX => (hr.below hX).more hX.size
  have HCB : Hid (∀ X, Below w.heap.size w X → X.cell? ⟨b, off + 9, none⟩ = some (.int .u8 (2 * (m : Int)))) := fun X hX => by rw [hX.cell hb, hcell 9 (by omega), hby]
  clear hr hx hcell hkw hby
  have Hp := Lib.hid hp
  have Hq := Lib.hid hq
  have Ht := Lib.hid ht
  have Hl := Lib.hid hl
  clear hp hq ht hl
  have HRt := Lib.hid hrt
  have hm : m ≤ 500 := by omega
  have HLn := Lib.hid hln
  clear hrt hln
  go_enter Try.func25, Try.ntmps25
  go_wp2_with (first
    | (go_at_call 48; (with_reducible refine (rword_any (some ⟨b, off, none⟩) n c zs 1 p _ Hp.out HR.out HX.out (by omega)).mono ?_); rintro e w' ⟨rfl, d1, rfl⟩)
    | (go_at_call 48; (with_reducible refine (rword_any (some ⟨b, off, none⟩) n c zs 3 q _ Hq.out (HR.out.drewN _) HX.out (by omega)).mono ?_); rintro e w' ⟨rfl, d3, rfl⟩)
    | (go_at_call 48; (with_reducible refine (rword_any (some ⟨b, off, none⟩) n c zs 5 t _ Ht.out (HR.out.drewN _) HX.out (by omega)).mono ?_); rintro e w' ⟨rfl, d5, rfl⟩)
    | (go_at_call 48; (with_reducible refine (rword_any (some ⟨b, off, none⟩) n c zs 7 (m : Int) _ Hl.out (HR.out.drewN _) HX.out (by omega)).mono ?_); rintro e w' ⟨rfl, d7, rfl⟩)
    | (go_at_call 51
       have hX4 : WholeV (((((((w.alloc (.cells #[.int .i64 0, .int .i64 0, .int .i64 0, .int .u16 0, .int .u16 0, .int .u16 0, .slice none 0 0, .slice none 0 0, .int .i64 0, .int .i64 0, .int .i64 0, .int .i64 0] 30)).alloc (.cells #[.int .i64 23, .int .i64 0, .int .i64 0, .int .u16 0, .int .u16 0, .int .u16 0, .slice none 0 0, .slice none 0 0, .int .i64 0, .int .i64 0, .int .i64 0, .int .i64 0] 30)).drewN (d1 + d3 + d5 + d7)).setCell ⟨w.heap.size + 1, 8, none⟩ (.int .i64 p)).setCell ⟨w.heap.size + 1, 9, none⟩ (.int .i64 q)).setCell ⟨w.heap.size + 1, 1, none⟩ (.int .i64 t)).setCell ⟨w.heap.size + 1, 2, none⟩ (.int .i64 (m : Int))) (w.heap.size + 1) 30 [.int .i64 23, .int .i64 t, .int .i64 (m : Int), .int .u16 0, .int .u16 0, .int .u16 0, .slice none 0 0, .slice none 0 0, .int .i64 p, .int .i64 q, .int .i64 0, .int .i64 0] := (((((HG4.out.drewN (d1 + d3 + d5 + d7)).set 8 (.int .i64 p)).set 9 (.int .i64 q)).set 1 (.int .i64 t)).set 2 (.int .i64 (m : Int)))
       have hXb : Below (w.heap.size + 1) ((w.alloc (.cells #[.int .i64 0, .int .i64 0, .int .i64 0, .int .u16 0, .int .u16 0, .int .u16 0, .slice none 0 0, .slice none 0 0, .int .i64 0, .int .i64 0, .int .i64 0, .int .i64 0] 30)).alloc (.cells #[.int .i64 23, .int .i64 0, .int .i64 0, .int .u16 0, .int .u16 0, .int .u16 0, .slice none 0 0, .slice none 0 0, .int .i64 0, .int .i64 0, .int .i64 0, .int .i64 0] 30)) (((((((w.alloc (.cells #[.int .i64 0, .int .i64 0, .int .i64 0, .int .u16 0, .int .u16 0, .int .u16 0, .slice none 0 0, .slice none 0 0, .int .i64 0, .int .i64 0, .int .i64 0, .int .i64 0] 30)).alloc (.cells #[.int .i64 23, .int .i64 0, .int .i64 0, .int .u16 0, .int .u16 0, .int .u16 0, .slice none 0 0, .slice none 0 0, .int .i64 0, .int .i64 0, .int .i64 0, .int .i64 0] 30)).drewN (d1 + d3 + d5 + d7)).setCell ⟨w.heap.size + 1, 8, none⟩ (.int .i64 p)).setCell ⟨w.heap.size + 1, 9, none⟩ (.int .i64 q)).setCell ⟨w.heap.size + 1, 1, none⟩ (.int .i64 t)).setCell ⟨w.heap.size + 1, 2, none⟩ (.int .i64 (m : Int))) := (((((below_drewN (Below.refl (w.heap.size + 1) _) (d1 + d3 + d5 + d7)).setCell (p := ⟨w.heap.size + 1, 8, none⟩) (Nat.le_refl _) (.int .i64 p)).setCell (p := ⟨w.heap.size + 1, 9, none⟩) (Nat.le_refl _) (.int .i64 q)).setCell (p := ⟨w.heap.size + 1, 1, none⟩) (Nat.le_refl _) (.int .i64 t)).setCell (p := ⟨w.heap.size + 1, 2, none⟩) (Nat.le_refl _) (.int .i64 (m : Int)))
       refine (rlist_at (some ⟨b, off, none⟩) n c zs 10 m 10 (m : Int) _ rfl rfl (HRG.out _ (HKW.out.trans (hXb.mono (by omega)))) HX.out (by omega) (by omega) HLn.out).mono ?_
       rintro e w4 ⟨B, d, rfl, ho4, hb4⟩
       obtain ⟨sX, hsX⟩ : ∃ sX, ((((((((w.alloc (.cells #[.int .i64 0, .int .i64 0, .int .i64 0, .int .u16 0, .int .u16 0, .int .u16 0, .slice none 0 0, .slice none 0 0, .int .i64 0, .int .i64 0, .int .i64 0, .int .i64 0] 30)).alloc (.cells #[.int .i64 23, .int .i64 0, .int .i64 0, .int .u16 0, .int .u16 0, .int .u16 0, .slice none 0 0, .slice none 0 0, .int .i64 0, .int .i64 0, .int .i64 0, .int .i64 0] 30)).drewN (d1 + d3 + d5 + d7)).setCell ⟨w.heap.size + 1, 8, none⟩ (.int .i64 p)).setCell ⟨w.heap.size + 1, 9, none⟩ (.int .i64 q)).setCell ⟨w.heap.size + 1, 1, none⟩ (.int .i64 t)).setCell ⟨w.heap.size + 1, 2, none⟩ (.int .i64 (m : Int)))).heap.size = sX := ⟨_, rfl⟩
       have hX1 : w.heap.size < sX := by rw [← hsX]; exact Nat.lt_of_succ_lt hX4.lt
       have hX2 : w.heap.size + 1 < sX := by rw [← hsX]; exact hX4.lt
       have hx4 := hX4.below hb4 hX4.lt
       have hb4' : Below (w.heap.size + 1) ((w.alloc (.cells #[.int .i64 0, .int .i64 0, .int .i64 0, .int .u16 0, .int .u16 0, .int .u16 0, .slice none 0 0, .slice none 0 0, .int .i64 0, .int .i64 0, .int .i64 0, .int .i64 0] 30)).alloc (.cells #[.int .i64 23, .int .i64 0, .int .i64 0, .int .u16 0, .int .u16 0, .int .u16 0, .slice none 0 0, .slice none 0 0, .int .i64 0, .int .i64 0, .int .i64 0, .int .i64 0] 30)) w4 := hXb.trans (hb4.mono (Nat.le_of_lt hX4.lt))
       rw [hsX] at ho4
       have hc7 : w4.cell? ⟨w.heap.size + 1, 7, none⟩ = some (.slice none 0 0) := hx4.cell 7
       have hf7 := hx4.frozen 7
       have hx5 := hx4.set 7 (.slice B m d)
       have hc2 : (w4.setCell ⟨w.heap.size + 1, 7, none⟩ (.slice B m d)).cell? ⟨w.heap.size + 1, 2, none⟩ = some (.int .i64 (m : Int)) := hx5.cell 2
       have hb5 : Below (w.heap.size + 1) ((w.alloc (.cells #[.int .i64 0, .int .i64 0, .int .i64 0, .int .u16 0, .int .u16 0, .int .u16 0, .slice none 0 0, .slice none 0 0, .int .i64 0, .int .i64 0, .int .i64 0, .int .i64 0] 30)).alloc (.cells #[.int .i64 23, .int .i64 0, .int .i64 0, .int .u16 0, .int .u16 0, .int .u16 0, .slice none 0 0, .slice none 0 0, .int .i64 0, .int .i64 0, .int .i64 0, .int .i64 0] 30)) (w4.setCell ⟨w.heap.size + 1, 7, none⟩ (.slice B m d)) := hb4'.setCell (Nat.le_refl _) _
       have hcb := HCB.out _ (HKW.out.trans (hb5.mono (by omega)))
       have HX5 := Lib.hid hx5
       have HBL := Lib.hid hb5
       have HO5 := Lib.hid (own_far ho4 ⟨w.heap.size + 1, 7, none⟩ hX2 (.slice B m d))
       clear hX4 hXb hsX hx4 hb4' hx5 hb5 ho4 hb4))
  go_quiet (fail)
  all_goals go_wp2
  obtain ⟨w3, hw3⟩ : ∃ w3, ((w4.setCell ⟨w.heap.size + 1, 7, none⟩ (.slice B m d)).drewN nq) = w3 := ⟨_, rfl⟩
  have hbel : Below (w.heap.size + 1) ((w.alloc (.cells #[.int .i64 0, .int .i64 0, .int .i64 0, .int .u16 0, .int .u16 0, .int .u16 0, .slice none 0 0, .slice none 0 0, .int .i64 0, .int .i64 0, .int .i64 0, .int .i64 0] 30)).alloc (.cells #[.int .i64 23, .int .i64 0, .int .i64 0, .int .u16 0, .int .u16 0, .int .u16 0, .slice none 0 0, .slice none 0 0, .int .i64 0, .int .i64 0, .int .i64 0, .int .i64 0] 30)) w3 := by rw [← hw3]; exact (below_drewN HBL.out nq)
  have ha4 : WholeV w3 (w.heap.size + 1) 30 [.int .i64 23, .int .i64 t, .int .i64 (m : Int), .int .u16 0, .int .u16 0, .int .u16 0, .slice none 0 0, .slice B m d, .int .i64 p, .int .i64 q, .int .i64 0, .int .i64 0] := by rw [← hw3]; exact (HX5.out.drewN nq)
  have ha2 : WholeV w3 w.heap.size 30 [.int .i64 0, .int .i64 0, .int .i64 0, .int .u16 0, .int .u16 0, .int .u16 0, .slice none 0 0, .slice none 0 0, .int .i64 0, .int .i64 0, .int .i64 0, .int .i64 0] := HG2.out.below hbel (by omega)
  have hab : Below w.heap.size w w3 := HKW.out.trans (hbel.mono (by omega))
  have hz3 : w.heap.size + 2 ≤ w3.heap.size := ha4.lt
  rw [hw3]
  have HA2 := Lib.hid ha2
  have HAB := Lib.hid hab
  have HO3 : Hid (w3.ownsRow sX 26 1 (.slice B m d) m ((wordsAt zs 10 m).map (Value.int .u16))) := by rw [← hw3]; exact HO5.out
  obtain ⟨hq0, hq1, hq2, hq3, hq4, hq5, hq6, hq7, hq8, hq9, hq10, hq11⟩ := cells12 ha4
  have HA4 := Lib.hid ha4
  clear ha2 ha4 hw3 hbel hab HR HX HRG HCB HG4 HG2 HKW
  go_region_with (first
      | (go_at_call 52
         (with_reducible refine (right_lit_AskReadW 23 t (m : Int) 0 0 0 0 m p q 0 0 none B 0 d w3.drew bb HRt.out).mono ?_)
         rintro e w5 ⟨rfl, hb5⟩
         have hb5' := below_from (d := 1) hb5
         have ha5 := HA2.out.below hb5' (show w.heap.size < w3.heap.size by omega)
         obtain ⟨hs0, hs1, hs2, hs3, hs4, hs5, hs6, hs7, hs8, hs9, hs10, hs11⟩ := cells12 ha5
         obtain ⟨hv0, hv1, hv2, hv3, hv4, hv5, hv6, hv7, hv8, hv9, hv10, hv11⟩ := cells12 (HA4.out.below hb5' (show w.heap.size + 1 < w3.heap.size by omega))
         obtain ⟨hg0, hg1, hg2, hg3, hg4, hg5, hg6, hg7, hg8, hg9, hg10, hg11⟩ := frozen12 ha5
         obtain ⟨w9, hw9, hwh, hbb⟩ := set12 ha5 (HAB.out.trans (hb5'.mono HAB.out.size)) (.int .i64 23) (.int .i64 t) (.int .i64 (m : Int)) (.int .u16 0) (.int .u16 0) (.int .u16 0) (.slice none 0 0) (.slice B m d) (.int .i64 p) (.int .i64 q) (.int .i64 0) (.int .i64 0) rfl
         have HE := Lib.hid (cells12 hwh)
         have HBB := Lib.hid hbb
         have HW9 := Lib.hid hw9
         have ho9 := own12 (own_keep HO3.out hb5') hX1 (.int .i64 23) (.int .i64 t) (.int .i64 (m : Int)) (.int .u16 0) (.int .u16 0) (.int .u16 0) (.slice none 0 0) (.slice B m d) (.int .i64 p) (.int .i64 q) (.int .i64 0) (.int .i64 0)
         rw [hw9] at ho9
         have HO9 := Lib.hid ho9
         clear hwh hbb hw9 ha5 hb5' ho9))
  all_goals
    go_wp2
    try rw [HW9.out]
    obtain ⟨he0, he1, he2, he3, he4, he5, he6, he7, he8, he9, he10, he11⟩ := HE.out
    first
      | exact bodyPost_ret (v := .tuple #[.agg #[.int .i64 23, .int .i64 t, .int .i64 (m : Int), .int .u16 0, .int .u16 0, .int .u16 0, .slice none 0 0, .slice B m d, .int .i64 p, .int .i64 q, .int .i64 0, .int .i64 0], .bool bb]) (by simp [results, Try.results25, go_sem, he0, he1, he2, he3, he4, he5, he6, he7, he8, he9, he10, he11]) rfl ⟨_, _, rfl, own_mono HO9.out (Nat.le_of_lt hX1), HBB.out⟩
      | exact bodyPost_ret (v := .tuple #[.agg #[.int .i64 23, .int .i64 t, .int .i64 (m : Int), .int .u16 0, .int .u16 0, .int .u16 0, .slice none 0 0, .slice B m d, .int .i64 p, .int .i64 q, .int .i64 0, .int .i64 0], .bool bb]) (by simp [results, Try.results25, go_sem, he0, he1, he2, he3, he4, he5, he6, he7, he8, he9, he10, he11]) rfl ⟨_, _, rfl, (own_mono HO9.out (Nat.le_of_lt hX1)).drew, HBB.out.drew⟩

end Go.Proofs.Ytebpilfogdenjaa

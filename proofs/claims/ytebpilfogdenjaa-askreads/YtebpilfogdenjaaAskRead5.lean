/- The document's read of a request. -/
import Derived.Test.YtebpilfogdenjaaAskSet
namespace Go.Proofs.Ytebpilfogdenjaa
open Go.ChangeShapes Go.WideShapes Go.ChangeAt Go.RowKit
set_option linter.unusedVariables false
set_option linter.unusedSimpArgs false

set_option maxRecDepth 100000 in
set_option maxHeartbeats 4000000 in
theorem rread_5_lena (A : Option Addr) (n c : Nat) (zs : List Int) (t v : Int) (w : World) (hr : Row .u8 w w.heap.size A n zs) (hx : Bytes8 zs) (hn : n ≤ 1000) (h1 : 1 ≤ n) (h0 : zs.getD 0 0 = 5) (ht : gotW zs n 1 = t) (hv : gotW zs n 3 = v) (h5 : n ≠ 5) (hvv : v = 65280) :
    Calls Try.prog 25 #[.slice A n c] w fun e w' => e = .returned (.tuple #[.agg #[.int .i64 5, .int .i64 t, .int .i64 0, .int .u16 1, .int .u16 0, .int .u16 0, .slice none 0 0, .slice none 0 0, .int .i64 0, .int .i64 0, .int .i64 0, .int .i64 0], .bool false]) ∧ Below w.heap.size w w' := by
  obtain ⟨lot, hit⟩ := gotW_bounds hx n 1
  rw [ht] at lot hit
  have h5' : ¬ (n : Int) = 5 := by omega
  have hd5 : ((n : Int) == 5) = false := by simpa using h5'
  subst hvv
  obtain ⟨b, off, rfl, hb, hcell⟩ := hr.2 (by omega)
  have hc0 : (w.alloc (.cells #[.int .i64 0, .int .i64 0, .int .i64 0, .int .u16 0, .int .u16 0, .int .u16 0, .slice none 0 0, .slice none 0 0, .int .i64 0, .int .i64 0, .int .i64 0, .int .i64 0] 30)).cell? ⟨b, off, none⟩ = some (.int .u8 5) := by
    rw [World.cell?_alloc_lt w _ ⟨b, off, none⟩ hb]
    have := hcell 0 (by omega)
    rw [Nat.add_zero, h0] at this
    exact this
  have hn0 : (0 : Int) < (n : Int) := by omega
  have hkw : Below w.heap.size w ((w.alloc (.cells #[.int .i64 0, .int .i64 0, .int .i64 0, .int .u16 0, .int .u16 0, .int .u16 0, .slice none 0 0, .slice none 0 0, .int .i64 0, .int .i64 0, .int .i64 0, .int .i64 0] 30)).alloc (.cells #[.int .i64 5, .int .i64 0, .int .i64 0, .int .u16 0, .int .u16 0, .int .u16 0, .slice none 0 0, .slice none 0 0, .int .i64 0, .int .i64 0, .int .i64 0, .int .i64 0] 30)) := ((Below.refl _ _).alloc (Nat.le_refl _) _).alloc (by simp) _
  have HKW := Lib.hid hkw
  have HG4 : Hid (WholeV ((w.alloc (.cells #[.int .i64 0, .int .i64 0, .int .i64 0, .int .u16 0, .int .u16 0, .int .u16 0, .slice none 0 0, .slice none 0 0, .int .i64 0, .int .i64 0, .int .i64 0, .int .i64 0] 30)).alloc (.cells #[.int .i64 5, .int .i64 0, .int .i64 0, .int .u16 0, .int .u16 0, .int .u16 0, .slice none 0 0, .slice none 0 0, .int .i64 0, .int .i64 0, .int .i64 0, .int .i64 0] 30)) (w.heap.size + 1) 30 [.int .i64 5, .int .i64 0, .int .i64 0, .int .u16 0, .int .u16 0, .int .u16 0, .slice none 0 0, .slice none 0 0, .int .i64 0, .int .i64 0, .int .i64 0, .int .i64 0]) := by
    have h := heap_alloc_new (w.alloc (.cells #[.int .i64 0, .int .i64 0, .int .i64 0, .int .u16 0, .int .u16 0, .int .u16 0, .slice none 0 0, .slice none 0 0, .int .i64 0, .int .i64 0, .int .i64 0, .int .i64 0] 30)) (.cells #[.int .i64 5, .int .i64 0, .int .i64 0, .int .u16 0, .int .u16 0, .int .u16 0, .slice none 0 0, .slice none 0 0, .int .i64 0, .int .i64 0, .int .i64 0, .int .i64 0] 30)
    rwa [show (w.alloc (.cells #[.int .i64 0, .int .i64 0, .int .i64 0, .int .u16 0, .int .u16 0, .int .u16 0, .slice none 0 0, .slice none 0 0, .int .i64 0, .int .i64 0, .int .i64 0, .int .i64 0] 30)).heap.size = w.heap.size + 1 by simp] at h
  have HG2 : Hid (WholeV ((w.alloc (.cells #[.int .i64 0, .int .i64 0, .int .i64 0, .int .u16 0, .int .u16 0, .int .u16 0, .slice none 0 0, .slice none 0 0, .int .i64 0, .int .i64 0, .int .i64 0, .int .i64 0] 30)).alloc (.cells #[.int .i64 5, .int .i64 0, .int .i64 0, .int .u16 0, .int .u16 0, .int .u16 0, .slice none 0 0, .slice none 0 0, .int .i64 0, .int .i64 0, .int .i64 0, .int .i64 0] 30)) w.heap.size 30 [.int .i64 0, .int .i64 0, .int .i64 0, .int .u16 0, .int .u16 0, .int .u16 0, .slice none 0 0, .slice none 0 0, .int .i64 0, .int .i64 0, .int .i64 0, .int .i64 0]) := by
    have h : WholeV (w.alloc (.cells #[.int .i64 0, .int .i64 0, .int .i64 0, .int .u16 0, .int .u16 0, .int .u16 0, .slice none 0 0, .slice none 0 0, .int .i64 0, .int .i64 0, .int .i64 0, .int .i64 0] 30)) w.heap.size 30 [.int .i64 0, .int .i64 0, .int .i64 0, .int .u16 0, .int .u16 0, .int .u16 0, .slice none 0 0, .slice none 0 0, .int .i64 0, .int .i64 0, .int .i64 0, .int .i64 0] := heap_alloc_new w _
    exact h.below ((Below.refl _ _).alloc (Nat.le_refl _) _) (by simp)
  have HR := Lib.hid ((hr.below hkw).more hkw.size)
  have HX := Lib.hid hx
  have HRG : Hid (∀ X, Below w.heap.size w X → Row .u8 X X.heap.size (some ⟨b, off, none⟩) n zs) := fun X hX => (hr.below hX).more hX.size
  clear hr hx hcell hkw
  have Ht := Lib.hid ht
  have Hv := Lib.hid hv
  clear ht hv
  go_enter Try.func25, Try.ntmps25
  go_wp2_with (first
    | (go_at_call 48; (with_reducible refine (rword_any (some ⟨b, off, none⟩) n c zs 1 t _ Ht.out HR.out HX.out (by omega)).mono ?_); rintro e w' ⟨rfl, d1, rfl⟩)
    | (go_at_call 48; (with_reducible refine (rword_any (some ⟨b, off, none⟩) n c zs 3 _ _ Hv.out (HRG.out _ ?_) HX.out (by omega)).mono ?_); (exact (below_drewN HKW.out d1).setCell (p := ⟨w.heap.size + 1, 1, none⟩) (by show w.heap.size ≤ w.heap.size + 1; omega) (.int .i64 t)); rintro e w' ⟨rfl, d3, rfl⟩))
  obtain ⟨w3, hw3⟩ : ∃ w3, ((((((w.alloc (.cells #[.int .i64 0, .int .i64 0, .int .i64 0, .int .u16 0, .int .u16 0, .int .u16 0, .slice none 0 0, .slice none 0 0, .int .i64 0, .int .i64 0, .int .i64 0, .int .i64 0] 30)).alloc (.cells #[.int .i64 5, .int .i64 0, .int .i64 0, .int .u16 0, .int .u16 0, .int .u16 0, .slice none 0 0, .slice none 0 0, .int .i64 0, .int .i64 0, .int .i64 0, .int .i64 0] 30)).drewN d1).setCell ⟨w.heap.size + 1, 1, none⟩ (.int .i64 t)).drewN d3).setCell ⟨w.heap.size + 1, 3, none⟩ (.int .u16 1)) = w3 := ⟨_, rfl⟩
  have hbel : Below (w.heap.size + 1) ((w.alloc (.cells #[.int .i64 0, .int .i64 0, .int .i64 0, .int .u16 0, .int .u16 0, .int .u16 0, .slice none 0 0, .slice none 0 0, .int .i64 0, .int .i64 0, .int .i64 0, .int .i64 0] 30)).alloc (.cells #[.int .i64 5, .int .i64 0, .int .i64 0, .int .u16 0, .int .u16 0, .int .u16 0, .slice none 0 0, .slice none 0 0, .int .i64 0, .int .i64 0, .int .i64 0, .int .i64 0] 30)) w3 := by rw [← hw3]; exact ((below_drewN ((below_drewN (Below.refl (w.heap.size + 1) _) d1).setCell (p := ⟨w.heap.size + 1, 1, none⟩) (Nat.le_refl _) (.int .i64 t)) d3).setCell (p := ⟨w.heap.size + 1, 3, none⟩) (Nat.le_refl _) (.int .u16 1))
  have ha4 : WholeV w3 (w.heap.size + 1) 30 [.int .i64 5, .int .i64 t, .int .i64 0, .int .u16 1, .int .u16 0, .int .u16 0, .slice none 0 0, .slice none 0 0, .int .i64 0, .int .i64 0, .int .i64 0, .int .i64 0] := by rw [← hw3]; exact ((((HG4.out.drewN d1).set 1 (.int .i64 t)).drewN d3).set 3 (.int .u16 1))
  have ha2 : WholeV w3 w.heap.size 30 [.int .i64 0, .int .i64 0, .int .i64 0, .int .u16 0, .int .u16 0, .int .u16 0, .slice none 0 0, .slice none 0 0, .int .i64 0, .int .i64 0, .int .i64 0, .int .i64 0] := HG2.out.below hbel (by omega)
  have hab : Below w.heap.size w w3 := HKW.out.trans (hbel.mono (by omega))
  have hz3 : w.heap.size + 2 ≤ w3.heap.size := ha4.lt
  rw [hw3]
  have HA2 := Lib.hid ha2
  have HAB := Lib.hid hab
  obtain ⟨hq0, hq1, hq2, hq3, hq4, hq5, hq6, hq7, hq8, hq9, hq10, hq11⟩ := cells12 ha4
  obtain ⟨hp0, hp1, hp2, hp3, hp4, hp5, hp6, hp7, hp8, hp9, hp10, hp11⟩ := cells12 ha2
  obtain ⟨hf0, hf1, hf2, hf3, hf4, hf5, hf6, hf7, hf8, hf9, hf10, hf11⟩ := frozen12 ha2
  obtain ⟨w9, hw9, hwh, hbb⟩ := set12 ha2 hab (.int .i64 5) (.int .i64 t) (.int .i64 0) (.int .u16 1) (.int .u16 0) (.int .u16 0) (.slice none 0 0) (.slice none 0 0) (.int .i64 0) (.int .i64 0) (.int .i64 0) (.int .i64 0) rfl
  have HE := Lib.hid (cells12 hwh)
  have HBB := Lib.hid hbb
  have HW9 := Lib.hid hw9
  clear hwh hbb hw9
  clear ha2 ha4 hw3 hbel hab HR HX HRG HG4 HG2 HKW
  first | go_region_with (fail) | skip
  all_goals
    go_wp2
    rw [HW9.out]
    obtain ⟨he0, he1, he2, he3, he4, he5, he6, he7, he8, he9, he10, he11⟩ := HE.out
    exact bodyPost_ret (v := .tuple #[.agg #[.int .i64 5, .int .i64 t, .int .i64 0, .int .u16 1, .int .u16 0, .int .u16 0, .slice none 0 0, .slice none 0 0, .int .i64 0, .int .i64 0, .int .i64 0, .int .i64 0], .bool false]) (by simp [results, Try.results25, go_sem, he0, he1, he2, he3, he4, he5, he6, he7, he8, he9, he10, he11]) rfl ⟨rfl, HBB.out.drew⟩

set_option maxRecDepth 100000 in
set_option maxHeartbeats 4000000 in
theorem rread_5_lenb (A : Option Addr) (n c : Nat) (zs : List Int) (t v : Int) (w : World) (hr : Row .u8 w w.heap.size A n zs) (hx : Bytes8 zs) (hn : n ≤ 1000) (h1 : 1 ≤ n) (h0 : zs.getD 0 0 = 5) (ht : gotW zs n 1 = t) (hv : gotW zs n 3 = v) (h5 : n ≠ 5) (hvv : v ≠ 65280) :
    Calls Try.prog 25 #[.slice A n c] w fun e w' => e = .returned (.tuple #[.agg #[.int .i64 5, .int .i64 t, .int .i64 0, .int .u16 0, .int .u16 0, .int .u16 0, .slice none 0 0, .slice none 0 0, .int .i64 0, .int .i64 0, .int .i64 0, .int .i64 0], .bool false]) ∧ Below w.heap.size w w' := by
  obtain ⟨lot, hit⟩ := gotW_bounds hx n 1
  rw [ht] at lot hit
  have h5' : ¬ (n : Int) = 5 := by omega
  have hd5 : ((n : Int) == 5) = false := by simpa using h5'
  have hbv : (v == 65280) = false := by simpa using hvv
  obtain ⟨b, off, rfl, hb, hcell⟩ := hr.2 (by omega)
  have hc0 : (w.alloc (.cells #[.int .i64 0, .int .i64 0, .int .i64 0, .int .u16 0, .int .u16 0, .int .u16 0, .slice none 0 0, .slice none 0 0, .int .i64 0, .int .i64 0, .int .i64 0, .int .i64 0] 30)).cell? ⟨b, off, none⟩ = some (.int .u8 5) := by
    rw [World.cell?_alloc_lt w _ ⟨b, off, none⟩ hb]
    have := hcell 0 (by omega)
    rw [Nat.add_zero, h0] at this
    exact this
  have hn0 : (0 : Int) < (n : Int) := by omega
  have hkw : Below w.heap.size w ((w.alloc (.cells #[.int .i64 0, .int .i64 0, .int .i64 0, .int .u16 0, .int .u16 0, .int .u16 0, .slice none 0 0, .slice none 0 0, .int .i64 0, .int .i64 0, .int .i64 0, .int .i64 0] 30)).alloc (.cells #[.int .i64 5, .int .i64 0, .int .i64 0, .int .u16 0, .int .u16 0, .int .u16 0, .slice none 0 0, .slice none 0 0, .int .i64 0, .int .i64 0, .int .i64 0, .int .i64 0] 30)) := ((Below.refl _ _).alloc (Nat.le_refl _) _).alloc (by simp) _
  have HKW := Lib.hid hkw
  have HG4 : Hid (WholeV ((w.alloc (.cells #[.int .i64 0, .int .i64 0, .int .i64 0, .int .u16 0, .int .u16 0, .int .u16 0, .slice none 0 0, .slice none 0 0, .int .i64 0, .int .i64 0, .int .i64 0, .int .i64 0] 30)).alloc (.cells #[.int .i64 5, .int .i64 0, .int .i64 0, .int .u16 0, .int .u16 0, .int .u16 0, .slice none 0 0, .slice none 0 0, .int .i64 0, .int .i64 0, .int .i64 0, .int .i64 0] 30)) (w.heap.size + 1) 30 [.int .i64 5, .int .i64 0, .int .i64 0, .int .u16 0, .int .u16 0, .int .u16 0, .slice none 0 0, .slice none 0 0, .int .i64 0, .int .i64 0, .int .i64 0, .int .i64 0]) := by
    have h := heap_alloc_new (w.alloc (.cells #[.int .i64 0, .int .i64 0, .int .i64 0, .int .u16 0, .int .u16 0, .int .u16 0, .slice none 0 0, .slice none 0 0, .int .i64 0, .int .i64 0, .int .i64 0, .int .i64 0] 30)) (.cells #[.int .i64 5, .int .i64 0, .int .i64 0, .int .u16 0, .int .u16 0, .int .u16 0, .slice none 0 0, .slice none 0 0, .int .i64 0, .int .i64 0, .int .i64 0, .int .i64 0] 30)
    rwa [show (w.alloc (.cells #[.int .i64 0, .int .i64 0, .int .i64 0, .int .u16 0, .int .u16 0, .int .u16 0, .slice none 0 0, .slice none 0 0, .int .i64 0, .int .i64 0, .int .i64 0, .int .i64 0] 30)).heap.size = w.heap.size + 1 by simp] at h
  have HG2 : Hid (WholeV ((w.alloc (.cells #[.int .i64 0, .int .i64 0, .int .i64 0, .int .u16 0, .int .u16 0, .int .u16 0, .slice none 0 0, .slice none 0 0, .int .i64 0, .int .i64 0, .int .i64 0, .int .i64 0] 30)).alloc (.cells #[.int .i64 5, .int .i64 0, .int .i64 0, .int .u16 0, .int .u16 0, .int .u16 0, .slice none 0 0, .slice none 0 0, .int .i64 0, .int .i64 0, .int .i64 0, .int .i64 0] 30)) w.heap.size 30 [.int .i64 0, .int .i64 0, .int .i64 0, .int .u16 0, .int .u16 0, .int .u16 0, .slice none 0 0, .slice none 0 0, .int .i64 0, .int .i64 0, .int .i64 0, .int .i64 0]) := by
    have h : WholeV (w.alloc (.cells #[.int .i64 0, .int .i64 0, .int .i64 0, .int .u16 0, .int .u16 0, .int .u16 0, .slice none 0 0, .slice none 0 0, .int .i64 0, .int .i64 0, .int .i64 0, .int .i64 0] 30)) w.heap.size 30 [.int .i64 0, .int .i64 0, .int .i64 0, .int .u16 0, .int .u16 0, .int .u16 0, .slice none 0 0, .slice none 0 0, .int .i64 0, .int .i64 0, .int .i64 0, .int .i64 0] := heap_alloc_new w _
    exact h.below ((Below.refl _ _).alloc (Nat.le_refl _) _) (by simp)
  have HR := Lib.hid ((hr.below hkw).more hkw.size)
  have HX := Lib.hid hx
  have HRG : Hid (∀ X, Below w.heap.size w X → Row .u8 X X.heap.size (some ⟨b, off, none⟩) n zs) := fun X hX => (hr.below hX).more hX.size
  clear hr hx hcell hkw
  have Ht := Lib.hid ht
  have Hv := Lib.hid hv
  clear ht hv
  go_enter Try.func25, Try.ntmps25
  go_wp2_with (first
    | (go_at_call 48; (with_reducible refine (rword_any (some ⟨b, off, none⟩) n c zs 1 t _ Ht.out HR.out HX.out (by omega)).mono ?_); rintro e w' ⟨rfl, d1, rfl⟩)
    | (go_at_call 48; (with_reducible refine (rword_any (some ⟨b, off, none⟩) n c zs 3 _ _ Hv.out (HRG.out _ ?_) HX.out (by omega)).mono ?_); (exact (below_drewN HKW.out d1).setCell (p := ⟨w.heap.size + 1, 1, none⟩) (by show w.heap.size ≤ w.heap.size + 1; omega) (.int .i64 t)); rintro e w' ⟨rfl, d3, rfl⟩))
  obtain ⟨w3, hw3⟩ : ∃ w3, (((((w.alloc (.cells #[.int .i64 0, .int .i64 0, .int .i64 0, .int .u16 0, .int .u16 0, .int .u16 0, .slice none 0 0, .slice none 0 0, .int .i64 0, .int .i64 0, .int .i64 0, .int .i64 0] 30)).alloc (.cells #[.int .i64 5, .int .i64 0, .int .i64 0, .int .u16 0, .int .u16 0, .int .u16 0, .slice none 0 0, .slice none 0 0, .int .i64 0, .int .i64 0, .int .i64 0, .int .i64 0] 30)).drewN d1).setCell ⟨w.heap.size + 1, 1, none⟩ (.int .i64 t)).drewN d3) = w3 := ⟨_, rfl⟩
  have hbel : Below (w.heap.size + 1) ((w.alloc (.cells #[.int .i64 0, .int .i64 0, .int .i64 0, .int .u16 0, .int .u16 0, .int .u16 0, .slice none 0 0, .slice none 0 0, .int .i64 0, .int .i64 0, .int .i64 0, .int .i64 0] 30)).alloc (.cells #[.int .i64 5, .int .i64 0, .int .i64 0, .int .u16 0, .int .u16 0, .int .u16 0, .slice none 0 0, .slice none 0 0, .int .i64 0, .int .i64 0, .int .i64 0, .int .i64 0] 30)) w3 := by rw [← hw3]; exact (below_drewN ((below_drewN (Below.refl (w.heap.size + 1) _) d1).setCell (p := ⟨w.heap.size + 1, 1, none⟩) (Nat.le_refl _) (.int .i64 t)) d3)
  have ha4 : WholeV w3 (w.heap.size + 1) 30 [.int .i64 5, .int .i64 t, .int .i64 0, .int .u16 0, .int .u16 0, .int .u16 0, .slice none 0 0, .slice none 0 0, .int .i64 0, .int .i64 0, .int .i64 0, .int .i64 0] := by rw [← hw3]; exact (((HG4.out.drewN d1).set 1 (.int .i64 t)).drewN d3)
  have ha2 : WholeV w3 w.heap.size 30 [.int .i64 0, .int .i64 0, .int .i64 0, .int .u16 0, .int .u16 0, .int .u16 0, .slice none 0 0, .slice none 0 0, .int .i64 0, .int .i64 0, .int .i64 0, .int .i64 0] := HG2.out.below hbel (by omega)
  have hab : Below w.heap.size w w3 := HKW.out.trans (hbel.mono (by omega))
  have hz3 : w.heap.size + 2 ≤ w3.heap.size := ha4.lt
  rw [hw3]
  have HA2 := Lib.hid ha2
  have HAB := Lib.hid hab
  obtain ⟨hq0, hq1, hq2, hq3, hq4, hq5, hq6, hq7, hq8, hq9, hq10, hq11⟩ := cells12 ha4
  obtain ⟨hp0, hp1, hp2, hp3, hp4, hp5, hp6, hp7, hp8, hp9, hp10, hp11⟩ := cells12 ha2
  obtain ⟨hf0, hf1, hf2, hf3, hf4, hf5, hf6, hf7, hf8, hf9, hf10, hf11⟩ := frozen12 ha2
  obtain ⟨w9, hw9, hwh, hbb⟩ := set12 ha2 hab (.int .i64 5) (.int .i64 t) (.int .i64 0) (.int .u16 0) (.int .u16 0) (.int .u16 0) (.slice none 0 0) (.slice none 0 0) (.int .i64 0) (.int .i64 0) (.int .i64 0) (.int .i64 0) rfl
  have HE := Lib.hid (cells12 hwh)
  have HBB := Lib.hid hbb
  have HW9 := Lib.hid hw9
  clear hwh hbb hw9
  clear ha2 ha4 hw3 hbel hab HR HX HRG HG4 HG2 HKW
  first | go_region_with (fail) | skip
  all_goals
    go_wp2
    rw [HW9.out]
    obtain ⟨he0, he1, he2, he3, he4, he5, he6, he7, he8, he9, he10, he11⟩ := HE.out
    exact bodyPost_ret (v := .tuple #[.agg #[.int .i64 5, .int .i64 t, .int .i64 0, .int .u16 0, .int .u16 0, .int .u16 0, .slice none 0 0, .slice none 0 0, .int .i64 0, .int .i64 0, .int .i64 0, .int .i64 0], .bool false]) (by simp [results, Try.results25, go_sem, he0, he1, he2, he3, he4, he5, he6, he7, he8, he9, he10, he11]) rfl ⟨rfl, HBB.out.drew⟩

set_option maxRecDepth 100000 in
set_option maxHeartbeats 4000000 in
theorem rread_5_one (A : Option Addr) (n c : Nat) (zs : List Int) (t v : Int) (w : World) (hr : Row .u8 w w.heap.size A n zs) (hx : Bytes8 zs) (hn : n ≤ 1000) (h1 : 1 ≤ n) (h0 : zs.getD 0 0 = 5) (ht : gotW zs n 1 = t) (hv : gotW zs n 3 = v) (h5 : n = 5) (hvv : v = 65280) :
    Calls Try.prog 25 #[.slice A n c] w fun e w' => e = .returned (.tuple #[.agg #[.int .i64 5, .int .i64 t, .int .i64 0, .int .u16 1, .int .u16 0, .int .u16 0, .slice none 0 0, .slice none 0 0, .int .i64 0, .int .i64 0, .int .i64 0, .int .i64 0], .bool true]) ∧ Below w.heap.size w w' := by
  obtain ⟨lot, hit⟩ := gotW_bounds hx n 1
  rw [ht] at lot hit
  subst h5
  subst hvv
  obtain ⟨b, off, rfl, hb, hcell⟩ := hr.2 (by omega)
  have hc0 : (w.alloc (.cells #[.int .i64 0, .int .i64 0, .int .i64 0, .int .u16 0, .int .u16 0, .int .u16 0, .slice none 0 0, .slice none 0 0, .int .i64 0, .int .i64 0, .int .i64 0, .int .i64 0] 30)).cell? ⟨b, off, none⟩ = some (.int .u8 5) := by
    rw [World.cell?_alloc_lt w _ ⟨b, off, none⟩ hb]
    have := hcell 0 (by omega)
    rw [Nat.add_zero, h0] at this
    exact this
  have hkw : Below w.heap.size w ((w.alloc (.cells #[.int .i64 0, .int .i64 0, .int .i64 0, .int .u16 0, .int .u16 0, .int .u16 0, .slice none 0 0, .slice none 0 0, .int .i64 0, .int .i64 0, .int .i64 0, .int .i64 0] 30)).alloc (.cells #[.int .i64 5, .int .i64 0, .int .i64 0, .int .u16 0, .int .u16 0, .int .u16 0, .slice none 0 0, .slice none 0 0, .int .i64 0, .int .i64 0, .int .i64 0, .int .i64 0] 30)) := ((Below.refl _ _).alloc (Nat.le_refl _) _).alloc (by simp) _
  have HKW := Lib.hid hkw
  have HG4 : Hid (WholeV ((w.alloc (.cells #[.int .i64 0, .int .i64 0, .int .i64 0, .int .u16 0, .int .u16 0, .int .u16 0, .slice none 0 0, .slice none 0 0, .int .i64 0, .int .i64 0, .int .i64 0, .int .i64 0] 30)).alloc (.cells #[.int .i64 5, .int .i64 0, .int .i64 0, .int .u16 0, .int .u16 0, .int .u16 0, .slice none 0 0, .slice none 0 0, .int .i64 0, .int .i64 0, .int .i64 0, .int .i64 0] 30)) (w.heap.size + 1) 30 [.int .i64 5, .int .i64 0, .int .i64 0, .int .u16 0, .int .u16 0, .int .u16 0, .slice none 0 0, .slice none 0 0, .int .i64 0, .int .i64 0, .int .i64 0, .int .i64 0]) := by
    have h := heap_alloc_new (w.alloc (.cells #[.int .i64 0, .int .i64 0, .int .i64 0, .int .u16 0, .int .u16 0, .int .u16 0, .slice none 0 0, .slice none 0 0, .int .i64 0, .int .i64 0, .int .i64 0, .int .i64 0] 30)) (.cells #[.int .i64 5, .int .i64 0, .int .i64 0, .int .u16 0, .int .u16 0, .int .u16 0, .slice none 0 0, .slice none 0 0, .int .i64 0, .int .i64 0, .int .i64 0, .int .i64 0] 30)
    rwa [show (w.alloc (.cells #[.int .i64 0, .int .i64 0, .int .i64 0, .int .u16 0, .int .u16 0, .int .u16 0, .slice none 0 0, .slice none 0 0, .int .i64 0, .int .i64 0, .int .i64 0, .int .i64 0] 30)).heap.size = w.heap.size + 1 by simp] at h
  have HG2 : Hid (WholeV ((w.alloc (.cells #[.int .i64 0, .int .i64 0, .int .i64 0, .int .u16 0, .int .u16 0, .int .u16 0, .slice none 0 0, .slice none 0 0, .int .i64 0, .int .i64 0, .int .i64 0, .int .i64 0] 30)).alloc (.cells #[.int .i64 5, .int .i64 0, .int .i64 0, .int .u16 0, .int .u16 0, .int .u16 0, .slice none 0 0, .slice none 0 0, .int .i64 0, .int .i64 0, .int .i64 0, .int .i64 0] 30)) w.heap.size 30 [.int .i64 0, .int .i64 0, .int .i64 0, .int .u16 0, .int .u16 0, .int .u16 0, .slice none 0 0, .slice none 0 0, .int .i64 0, .int .i64 0, .int .i64 0, .int .i64 0]) := by
    have h : WholeV (w.alloc (.cells #[.int .i64 0, .int .i64 0, .int .i64 0, .int .u16 0, .int .u16 0, .int .u16 0, .slice none 0 0, .slice none 0 0, .int .i64 0, .int .i64 0, .int .i64 0, .int .i64 0] 30)) w.heap.size 30 [.int .i64 0, .int .i64 0, .int .i64 0, .int .u16 0, .int .u16 0, .int .u16 0, .slice none 0 0, .slice none 0 0, .int .i64 0, .int .i64 0, .int .i64 0, .int .i64 0] := heap_alloc_new w _
    exact h.below ((Below.refl _ _).alloc (Nat.le_refl _) _) (by simp)
  have HR := Lib.hid ((hr.below hkw).more hkw.size)
  have HX := Lib.hid hx
  have HRG : Hid (∀ X, Below w.heap.size w X → Row .u8 X X.heap.size (some ⟨b, off, none⟩) 5 zs) := fun X hX => (hr.below hX).more hX.size
  clear hr hx hcell hkw
  have Ht := Lib.hid ht
  have Hv := Lib.hid hv
  clear ht hv
  have hrt : rightP 5 t 0 1 0 0 0 0 0 0 0 0 := by refine ⟨rfl, ?_, ⟨lot, hit⟩, ⟨by omega, by omega⟩, ?_⟩; (unfold plainP; omega); (unfold fitsP; omega)
  have HRt := Lib.hid hrt
  clear hrt
  go_enter Try.func25, Try.ntmps25
  go_wp2_with (first
    | (go_at_call 48; (with_reducible refine (rword_any (some ⟨b, off, none⟩) 5 c zs 1 t _ Ht.out HR.out HX.out (by omega)).mono ?_); rintro e w' ⟨rfl, d1, rfl⟩)
    | (go_at_call 48; (with_reducible refine (rword_any (some ⟨b, off, none⟩) 5 c zs 3 _ _ Hv.out (HRG.out _ ?_) HX.out (by omega)).mono ?_); (exact (below_drewN HKW.out d1).setCell (p := ⟨w.heap.size + 1, 1, none⟩) (by show w.heap.size ≤ w.heap.size + 1; omega) (.int .i64 t)); rintro e w' ⟨rfl, d3, rfl⟩))
  obtain ⟨w3, hw3⟩ : ∃ w3, ((((((w.alloc (.cells #[.int .i64 0, .int .i64 0, .int .i64 0, .int .u16 0, .int .u16 0, .int .u16 0, .slice none 0 0, .slice none 0 0, .int .i64 0, .int .i64 0, .int .i64 0, .int .i64 0] 30)).alloc (.cells #[.int .i64 5, .int .i64 0, .int .i64 0, .int .u16 0, .int .u16 0, .int .u16 0, .slice none 0 0, .slice none 0 0, .int .i64 0, .int .i64 0, .int .i64 0, .int .i64 0] 30)).drewN d1).setCell ⟨w.heap.size + 1, 1, none⟩ (.int .i64 t)).drewN d3).setCell ⟨w.heap.size + 1, 3, none⟩ (.int .u16 1)) = w3 := ⟨_, rfl⟩
  have hbel : Below (w.heap.size + 1) ((w.alloc (.cells #[.int .i64 0, .int .i64 0, .int .i64 0, .int .u16 0, .int .u16 0, .int .u16 0, .slice none 0 0, .slice none 0 0, .int .i64 0, .int .i64 0, .int .i64 0, .int .i64 0] 30)).alloc (.cells #[.int .i64 5, .int .i64 0, .int .i64 0, .int .u16 0, .int .u16 0, .int .u16 0, .slice none 0 0, .slice none 0 0, .int .i64 0, .int .i64 0, .int .i64 0, .int .i64 0] 30)) w3 := by rw [← hw3]; exact ((below_drewN ((below_drewN (Below.refl (w.heap.size + 1) _) d1).setCell (p := ⟨w.heap.size + 1, 1, none⟩) (Nat.le_refl _) (.int .i64 t)) d3).setCell (p := ⟨w.heap.size + 1, 3, none⟩) (Nat.le_refl _) (.int .u16 1))
  have ha4 : WholeV w3 (w.heap.size + 1) 30 [.int .i64 5, .int .i64 t, .int .i64 0, .int .u16 1, .int .u16 0, .int .u16 0, .slice none 0 0, .slice none 0 0, .int .i64 0, .int .i64 0, .int .i64 0, .int .i64 0] := by rw [← hw3]; exact ((((HG4.out.drewN d1).set 1 (.int .i64 t)).drewN d3).set 3 (.int .u16 1))
  have ha2 : WholeV w3 w.heap.size 30 [.int .i64 0, .int .i64 0, .int .i64 0, .int .u16 0, .int .u16 0, .int .u16 0, .slice none 0 0, .slice none 0 0, .int .i64 0, .int .i64 0, .int .i64 0, .int .i64 0] := HG2.out.below hbel (by omega)
  have hab : Below w.heap.size w w3 := HKW.out.trans (hbel.mono (by omega))
  have hz3 : w.heap.size + 2 ≤ w3.heap.size := ha4.lt
  rw [hw3]
  have HA2 := Lib.hid ha2
  have HAB := Lib.hid hab
  obtain ⟨hq0, hq1, hq2, hq3, hq4, hq5, hq6, hq7, hq8, hq9, hq10, hq11⟩ := cells12 ha4
  have HA4 := Lib.hid ha4
  clear ha2 ha4 hw3 hbel hab HR HX HRG HG4 HG2 HKW
  go_region_with (first
      | (go_at_call 52
         (with_reducible refine (right_yes 5 t 0 1 0 0 0 0 0 0 0 0 none none 0 0 w3.drew HRt.out).mono ?_)
         rintro e w5 ⟨rfl, hb5⟩
         have hb5' := below_from (d := 1) hb5
         have ha5 := HA2.out.below hb5' (show w.heap.size < w3.heap.size by omega)
         obtain ⟨hs0, hs1, hs2, hs3, hs4, hs5, hs6, hs7, hs8, hs9, hs10, hs11⟩ := cells12 ha5
         obtain ⟨hv0, hv1, hv2, hv3, hv4, hv5, hv6, hv7, hv8, hv9, hv10, hv11⟩ := cells12 (HA4.out.below hb5' (show w.heap.size + 1 < w3.heap.size by omega))
         obtain ⟨hg0, hg1, hg2, hg3, hg4, hg5, hg6, hg7, hg8, hg9, hg10, hg11⟩ := frozen12 ha5
         obtain ⟨w9, hw9, hwh, hbb⟩ := set12 ha5 (HAB.out.trans (hb5'.mono HAB.out.size)) (.int .i64 5) (.int .i64 t) (.int .i64 0) (.int .u16 1) (.int .u16 0) (.int .u16 0) (.slice none 0 0) (.slice none 0 0) (.int .i64 0) (.int .i64 0) (.int .i64 0) (.int .i64 0) rfl
         have HE := Lib.hid (cells12 hwh)
         have HBB := Lib.hid hbb
         have HW9 := Lib.hid hw9
         clear hwh hbb hw9 ha5 hb5'))
  all_goals
    go_wp2
    try rw [HW9.out]
    obtain ⟨he0, he1, he2, he3, he4, he5, he6, he7, he8, he9, he10, he11⟩ := HE.out
    first
      | exact bodyPost_ret (v := .tuple #[.agg #[.int .i64 5, .int .i64 t, .int .i64 0, .int .u16 1, .int .u16 0, .int .u16 0, .slice none 0 0, .slice none 0 0, .int .i64 0, .int .i64 0, .int .i64 0, .int .i64 0], .bool true]) (by simp [results, Try.results25, go_sem, he0, he1, he2, he3, he4, he5, he6, he7, he8, he9, he10, he11]) rfl ⟨rfl, HBB.out⟩
      | exact bodyPost_ret (v := .tuple #[.agg #[.int .i64 5, .int .i64 t, .int .i64 0, .int .u16 1, .int .u16 0, .int .u16 0, .slice none 0 0, .slice none 0 0, .int .i64 0, .int .i64 0, .int .i64 0, .int .i64 0], .bool true]) (by simp [results, Try.results25, go_sem, he0, he1, he2, he3, he4, he5, he6, he7, he8, he9, he10, he11]) rfl ⟨rfl, HBB.out.drew⟩

set_option maxRecDepth 100000 in
set_option maxHeartbeats 4000000 in
theorem rread_5_nought (A : Option Addr) (n c : Nat) (zs : List Int) (t v : Int) (w : World) (hr : Row .u8 w w.heap.size A n zs) (hx : Bytes8 zs) (hn : n ≤ 1000) (h1 : 1 ≤ n) (h0 : zs.getD 0 0 = 5) (ht : gotW zs n 1 = t) (hv : gotW zs n 3 = v) (h5 : n = 5) (hvv : v = 0) :
    Calls Try.prog 25 #[.slice A n c] w fun e w' => e = .returned (.tuple #[.agg #[.int .i64 5, .int .i64 t, .int .i64 0, .int .u16 0, .int .u16 0, .int .u16 0, .slice none 0 0, .slice none 0 0, .int .i64 0, .int .i64 0, .int .i64 0, .int .i64 0], .bool true]) ∧ Below w.heap.size w w' := by
  obtain ⟨lot, hit⟩ := gotW_bounds hx n 1
  rw [ht] at lot hit
  subst h5
  subst hvv
  obtain ⟨b, off, rfl, hb, hcell⟩ := hr.2 (by omega)
  have hc0 : (w.alloc (.cells #[.int .i64 0, .int .i64 0, .int .i64 0, .int .u16 0, .int .u16 0, .int .u16 0, .slice none 0 0, .slice none 0 0, .int .i64 0, .int .i64 0, .int .i64 0, .int .i64 0] 30)).cell? ⟨b, off, none⟩ = some (.int .u8 5) := by
    rw [World.cell?_alloc_lt w _ ⟨b, off, none⟩ hb]
    have := hcell 0 (by omega)
    rw [Nat.add_zero, h0] at this
    exact this
  have hkw : Below w.heap.size w ((w.alloc (.cells #[.int .i64 0, .int .i64 0, .int .i64 0, .int .u16 0, .int .u16 0, .int .u16 0, .slice none 0 0, .slice none 0 0, .int .i64 0, .int .i64 0, .int .i64 0, .int .i64 0] 30)).alloc (.cells #[.int .i64 5, .int .i64 0, .int .i64 0, .int .u16 0, .int .u16 0, .int .u16 0, .slice none 0 0, .slice none 0 0, .int .i64 0, .int .i64 0, .int .i64 0, .int .i64 0] 30)) := ((Below.refl _ _).alloc (Nat.le_refl _) _).alloc (by simp) _
  have HKW := Lib.hid hkw
  have HG4 : Hid (WholeV ((w.alloc (.cells #[.int .i64 0, .int .i64 0, .int .i64 0, .int .u16 0, .int .u16 0, .int .u16 0, .slice none 0 0, .slice none 0 0, .int .i64 0, .int .i64 0, .int .i64 0, .int .i64 0] 30)).alloc (.cells #[.int .i64 5, .int .i64 0, .int .i64 0, .int .u16 0, .int .u16 0, .int .u16 0, .slice none 0 0, .slice none 0 0, .int .i64 0, .int .i64 0, .int .i64 0, .int .i64 0] 30)) (w.heap.size + 1) 30 [.int .i64 5, .int .i64 0, .int .i64 0, .int .u16 0, .int .u16 0, .int .u16 0, .slice none 0 0, .slice none 0 0, .int .i64 0, .int .i64 0, .int .i64 0, .int .i64 0]) := by
    have h := heap_alloc_new (w.alloc (.cells #[.int .i64 0, .int .i64 0, .int .i64 0, .int .u16 0, .int .u16 0, .int .u16 0, .slice none 0 0, .slice none 0 0, .int .i64 0, .int .i64 0, .int .i64 0, .int .i64 0] 30)) (.cells #[.int .i64 5, .int .i64 0, .int .i64 0, .int .u16 0, .int .u16 0, .int .u16 0, .slice none 0 0, .slice none 0 0, .int .i64 0, .int .i64 0, .int .i64 0, .int .i64 0] 30)
    rwa [show (w.alloc (.cells #[.int .i64 0, .int .i64 0, .int .i64 0, .int .u16 0, .int .u16 0, .int .u16 0, .slice none 0 0, .slice none 0 0, .int .i64 0, .int .i64 0, .int .i64 0, .int .i64 0] 30)).heap.size = w.heap.size + 1 by simp] at h
  have HG2 : Hid (WholeV ((w.alloc (.cells #[.int .i64 0, .int .i64 0, .int .i64 0, .int .u16 0, .int .u16 0, .int .u16 0, .slice none 0 0, .slice none 0 0, .int .i64 0, .int .i64 0, .int .i64 0, .int .i64 0] 30)).alloc (.cells #[.int .i64 5, .int .i64 0, .int .i64 0, .int .u16 0, .int .u16 0, .int .u16 0, .slice none 0 0, .slice none 0 0, .int .i64 0, .int .i64 0, .int .i64 0, .int .i64 0] 30)) w.heap.size 30 [.int .i64 0, .int .i64 0, .int .i64 0, .int .u16 0, .int .u16 0, .int .u16 0, .slice none 0 0, .slice none 0 0, .int .i64 0, .int .i64 0, .int .i64 0, .int .i64 0]) := by
    have h : WholeV (w.alloc (.cells #[.int .i64 0, .int .i64 0, .int .i64 0, .int .u16 0, .int .u16 0, .int .u16 0, .slice none 0 0, .slice none 0 0, .int .i64 0, .int .i64 0, .int .i64 0, .int .i64 0] 30)) w.heap.size 30 [.int .i64 0, .int .i64 0, .int .i64 0, .int .u16 0, .int .u16 0, .int .u16 0, .slice none 0 0, .slice none 0 0, .int .i64 0, .int .i64 0, .int .i64 0, .int .i64 0] := heap_alloc_new w _
    exact h.below ((Below.refl _ _).alloc (Nat.le_refl _) _) (by simp)
  have HR := Lib.hid ((hr.below hkw).more hkw.size)
  have HX := Lib.hid hx
  have HRG : Hid (∀ X, Below w.heap.size w X → Row .u8 X X.heap.size (some ⟨b, off, none⟩) 5 zs) := fun X hX => (hr.below hX).more hX.size
  clear hr hx hcell hkw
  have Ht := Lib.hid ht
  have Hv := Lib.hid hv
  clear ht hv
  have hrt : rightP 5 t 0 0 0 0 0 0 0 0 0 0 := by refine ⟨rfl, ?_, ⟨lot, hit⟩, ⟨by omega, by omega⟩, ?_⟩; (unfold plainP; omega); (unfold fitsP; omega)
  have HRt := Lib.hid hrt
  clear hrt
  go_enter Try.func25, Try.ntmps25
  go_wp2_with (first
    | (go_at_call 48; (with_reducible refine (rword_any (some ⟨b, off, none⟩) 5 c zs 1 t _ Ht.out HR.out HX.out (by omega)).mono ?_); rintro e w' ⟨rfl, d1, rfl⟩)
    | (go_at_call 48; (with_reducible refine (rword_any (some ⟨b, off, none⟩) 5 c zs 3 _ _ Hv.out (HRG.out _ ?_) HX.out (by omega)).mono ?_); (exact (below_drewN HKW.out d1).setCell (p := ⟨w.heap.size + 1, 1, none⟩) (by show w.heap.size ≤ w.heap.size + 1; omega) (.int .i64 t)); rintro e w' ⟨rfl, d3, rfl⟩))
  obtain ⟨w3, hw3⟩ : ∃ w3, (((((w.alloc (.cells #[.int .i64 0, .int .i64 0, .int .i64 0, .int .u16 0, .int .u16 0, .int .u16 0, .slice none 0 0, .slice none 0 0, .int .i64 0, .int .i64 0, .int .i64 0, .int .i64 0] 30)).alloc (.cells #[.int .i64 5, .int .i64 0, .int .i64 0, .int .u16 0, .int .u16 0, .int .u16 0, .slice none 0 0, .slice none 0 0, .int .i64 0, .int .i64 0, .int .i64 0, .int .i64 0] 30)).drewN d1).setCell ⟨w.heap.size + 1, 1, none⟩ (.int .i64 t)).drewN d3) = w3 := ⟨_, rfl⟩
  have hbel : Below (w.heap.size + 1) ((w.alloc (.cells #[.int .i64 0, .int .i64 0, .int .i64 0, .int .u16 0, .int .u16 0, .int .u16 0, .slice none 0 0, .slice none 0 0, .int .i64 0, .int .i64 0, .int .i64 0, .int .i64 0] 30)).alloc (.cells #[.int .i64 5, .int .i64 0, .int .i64 0, .int .u16 0, .int .u16 0, .int .u16 0, .slice none 0 0, .slice none 0 0, .int .i64 0, .int .i64 0, .int .i64 0, .int .i64 0] 30)) w3 := by rw [← hw3]; exact (below_drewN ((below_drewN (Below.refl (w.heap.size + 1) _) d1).setCell (p := ⟨w.heap.size + 1, 1, none⟩) (Nat.le_refl _) (.int .i64 t)) d3)
  have ha4 : WholeV w3 (w.heap.size + 1) 30 [.int .i64 5, .int .i64 t, .int .i64 0, .int .u16 0, .int .u16 0, .int .u16 0, .slice none 0 0, .slice none 0 0, .int .i64 0, .int .i64 0, .int .i64 0, .int .i64 0] := by rw [← hw3]; exact (((HG4.out.drewN d1).set 1 (.int .i64 t)).drewN d3)
  have ha2 : WholeV w3 w.heap.size 30 [.int .i64 0, .int .i64 0, .int .i64 0, .int .u16 0, .int .u16 0, .int .u16 0, .slice none 0 0, .slice none 0 0, .int .i64 0, .int .i64 0, .int .i64 0, .int .i64 0] := HG2.out.below hbel (by omega)
  have hab : Below w.heap.size w w3 := HKW.out.trans (hbel.mono (by omega))
  have hz3 : w.heap.size + 2 ≤ w3.heap.size := ha4.lt
  rw [hw3]
  have HA2 := Lib.hid ha2
  have HAB := Lib.hid hab
  obtain ⟨hq0, hq1, hq2, hq3, hq4, hq5, hq6, hq7, hq8, hq9, hq10, hq11⟩ := cells12 ha4
  have HA4 := Lib.hid ha4
  clear ha2 ha4 hw3 hbel hab HR HX HRG HG4 HG2 HKW
  go_region_with (first
      | (go_at_call 52
         (with_reducible refine (right_yes 5 t 0 0 0 0 0 0 0 0 0 0 none none 0 0 w3.drew HRt.out).mono ?_)
         rintro e w5 ⟨rfl, hb5⟩
         have hb5' := below_from (d := 1) hb5
         have ha5 := HA2.out.below hb5' (show w.heap.size < w3.heap.size by omega)
         obtain ⟨hs0, hs1, hs2, hs3, hs4, hs5, hs6, hs7, hs8, hs9, hs10, hs11⟩ := cells12 ha5
         obtain ⟨hv0, hv1, hv2, hv3, hv4, hv5, hv6, hv7, hv8, hv9, hv10, hv11⟩ := cells12 (HA4.out.below hb5' (show w.heap.size + 1 < w3.heap.size by omega))
         obtain ⟨hg0, hg1, hg2, hg3, hg4, hg5, hg6, hg7, hg8, hg9, hg10, hg11⟩ := frozen12 ha5
         obtain ⟨w9, hw9, hwh, hbb⟩ := set12 ha5 (HAB.out.trans (hb5'.mono HAB.out.size)) (.int .i64 5) (.int .i64 t) (.int .i64 0) (.int .u16 0) (.int .u16 0) (.int .u16 0) (.slice none 0 0) (.slice none 0 0) (.int .i64 0) (.int .i64 0) (.int .i64 0) (.int .i64 0) rfl
         have HE := Lib.hid (cells12 hwh)
         have HBB := Lib.hid hbb
         have HW9 := Lib.hid hw9
         clear hwh hbb hw9 ha5 hb5'))
  all_goals
    go_wp2
    try rw [HW9.out]
    obtain ⟨he0, he1, he2, he3, he4, he5, he6, he7, he8, he9, he10, he11⟩ := HE.out
    first
      | exact bodyPost_ret (v := .tuple #[.agg #[.int .i64 5, .int .i64 t, .int .i64 0, .int .u16 0, .int .u16 0, .int .u16 0, .slice none 0 0, .slice none 0 0, .int .i64 0, .int .i64 0, .int .i64 0, .int .i64 0], .bool true]) (by simp [results, Try.results25, go_sem, he0, he1, he2, he3, he4, he5, he6, he7, he8, he9, he10, he11]) rfl ⟨rfl, HBB.out⟩
      | exact bodyPost_ret (v := .tuple #[.agg #[.int .i64 5, .int .i64 t, .int .i64 0, .int .u16 0, .int .u16 0, .int .u16 0, .slice none 0 0, .slice none 0 0, .int .i64 0, .int .i64 0, .int .i64 0, .int .i64 0], .bool true]) (by simp [results, Try.results25, go_sem, he0, he1, he2, he3, he4, he5, he6, he7, he8, he9, he10, he11]) rfl ⟨rfl, HBB.out.drew⟩

set_option maxRecDepth 100000 in
set_option maxHeartbeats 4000000 in
theorem rread_5_other (A : Option Addr) (n c : Nat) (zs : List Int) (t v : Int) (w : World) (hr : Row .u8 w w.heap.size A n zs) (hx : Bytes8 zs) (hn : n ≤ 1000) (h1 : 1 ≤ n) (h0 : zs.getD 0 0 = 5) (ht : gotW zs n 1 = t) (hv : gotW zs n 3 = v) (h5 : n = 5) (h0v : v ≠ 0) (hvv : v ≠ 65280) :
    Calls Try.prog 25 #[.slice A n c] w fun e w' => e = .returned (.tuple #[.agg #[.int .i64 5, .int .i64 t, .int .i64 0, .int .u16 0, .int .u16 0, .int .u16 0, .slice none 0 0, .slice none 0 0, .int .i64 0, .int .i64 0, .int .i64 0, .int .i64 0], .bool false]) ∧ Below w.heap.size w w' := by
  obtain ⟨lot, hit⟩ := gotW_bounds hx n 1
  rw [ht] at lot hit
  subst h5
  have hbv : (v == 65280) = false := by simpa using hvv
  have hbw : (v == 0) = false := by simpa using h0v
  obtain ⟨b, off, rfl, hb, hcell⟩ := hr.2 (by omega)
  have hc0 : (w.alloc (.cells #[.int .i64 0, .int .i64 0, .int .i64 0, .int .u16 0, .int .u16 0, .int .u16 0, .slice none 0 0, .slice none 0 0, .int .i64 0, .int .i64 0, .int .i64 0, .int .i64 0] 30)).cell? ⟨b, off, none⟩ = some (.int .u8 5) := by
    rw [World.cell?_alloc_lt w _ ⟨b, off, none⟩ hb]
    have := hcell 0 (by omega)
    rw [Nat.add_zero, h0] at this
    exact this
  have hkw : Below w.heap.size w ((w.alloc (.cells #[.int .i64 0, .int .i64 0, .int .i64 0, .int .u16 0, .int .u16 0, .int .u16 0, .slice none 0 0, .slice none 0 0, .int .i64 0, .int .i64 0, .int .i64 0, .int .i64 0] 30)).alloc (.cells #[.int .i64 5, .int .i64 0, .int .i64 0, .int .u16 0, .int .u16 0, .int .u16 0, .slice none 0 0, .slice none 0 0, .int .i64 0, .int .i64 0, .int .i64 0, .int .i64 0] 30)) := ((Below.refl _ _).alloc (Nat.le_refl _) _).alloc (by simp) _
  have HKW := Lib.hid hkw
  have HG4 : Hid (WholeV ((w.alloc (.cells #[.int .i64 0, .int .i64 0, .int .i64 0, .int .u16 0, .int .u16 0, .int .u16 0, .slice none 0 0, .slice none 0 0, .int .i64 0, .int .i64 0, .int .i64 0, .int .i64 0] 30)).alloc (.cells #[.int .i64 5, .int .i64 0, .int .i64 0, .int .u16 0, .int .u16 0, .int .u16 0, .slice none 0 0, .slice none 0 0, .int .i64 0, .int .i64 0, .int .i64 0, .int .i64 0] 30)) (w.heap.size + 1) 30 [.int .i64 5, .int .i64 0, .int .i64 0, .int .u16 0, .int .u16 0, .int .u16 0, .slice none 0 0, .slice none 0 0, .int .i64 0, .int .i64 0, .int .i64 0, .int .i64 0]) := by
    have h := heap_alloc_new (w.alloc (.cells #[.int .i64 0, .int .i64 0, .int .i64 0, .int .u16 0, .int .u16 0, .int .u16 0, .slice none 0 0, .slice none 0 0, .int .i64 0, .int .i64 0, .int .i64 0, .int .i64 0] 30)) (.cells #[.int .i64 5, .int .i64 0, .int .i64 0, .int .u16 0, .int .u16 0, .int .u16 0, .slice none 0 0, .slice none 0 0, .int .i64 0, .int .i64 0, .int .i64 0, .int .i64 0] 30)
    rwa [show (w.alloc (.cells #[.int .i64 0, .int .i64 0, .int .i64 0, .int .u16 0, .int .u16 0, .int .u16 0, .slice none 0 0, .slice none 0 0, .int .i64 0, .int .i64 0, .int .i64 0, .int .i64 0] 30)).heap.size = w.heap.size + 1 by simp] at h
  have HG2 : Hid (WholeV ((w.alloc (.cells #[.int .i64 0, .int .i64 0, .int .i64 0, .int .u16 0, .int .u16 0, .int .u16 0, .slice none 0 0, .slice none 0 0, .int .i64 0, .int .i64 0, .int .i64 0, .int .i64 0] 30)).alloc (.cells #[.int .i64 5, .int .i64 0, .int .i64 0, .int .u16 0, .int .u16 0, .int .u16 0, .slice none 0 0, .slice none 0 0, .int .i64 0, .int .i64 0, .int .i64 0, .int .i64 0] 30)) w.heap.size 30 [.int .i64 0, .int .i64 0, .int .i64 0, .int .u16 0, .int .u16 0, .int .u16 0, .slice none 0 0, .slice none 0 0, .int .i64 0, .int .i64 0, .int .i64 0, .int .i64 0]) := by
    have h : WholeV (w.alloc (.cells #[.int .i64 0, .int .i64 0, .int .i64 0, .int .u16 0, .int .u16 0, .int .u16 0, .slice none 0 0, .slice none 0 0, .int .i64 0, .int .i64 0, .int .i64 0, .int .i64 0] 30)) w.heap.size 30 [.int .i64 0, .int .i64 0, .int .i64 0, .int .u16 0, .int .u16 0, .int .u16 0, .slice none 0 0, .slice none 0 0, .int .i64 0, .int .i64 0, .int .i64 0, .int .i64 0] := heap_alloc_new w _
    exact h.below ((Below.refl _ _).alloc (Nat.le_refl _) _) (by simp)
  have HR := Lib.hid ((hr.below hkw).more hkw.size)
  have HX := Lib.hid hx
  have HRG : Hid (∀ X, Below w.heap.size w X → Row .u8 X X.heap.size (some ⟨b, off, none⟩) 5 zs) := fun X hX => (hr.below hX).more hX.size
  clear hr hx hcell hkw
  have Ht := Lib.hid ht
  have Hv := Lib.hid hv
  clear ht hv
  go_enter Try.func25, Try.ntmps25
  go_wp2_with (first
    | (go_at_call 48; (with_reducible refine (rword_any (some ⟨b, off, none⟩) 5 c zs 1 t _ Ht.out HR.out HX.out (by omega)).mono ?_); rintro e w' ⟨rfl, d1, rfl⟩)
    | (go_at_call 48; (with_reducible refine (rword_any (some ⟨b, off, none⟩) 5 c zs 3 _ _ Hv.out (HRG.out _ ?_) HX.out (by omega)).mono ?_); (exact (below_drewN HKW.out d1).setCell (p := ⟨w.heap.size + 1, 1, none⟩) (by show w.heap.size ≤ w.heap.size + 1; omega) (.int .i64 t)); rintro e w' ⟨rfl, d3, rfl⟩))
  obtain ⟨w3, hw3⟩ : ∃ w3, (((((w.alloc (.cells #[.int .i64 0, .int .i64 0, .int .i64 0, .int .u16 0, .int .u16 0, .int .u16 0, .slice none 0 0, .slice none 0 0, .int .i64 0, .int .i64 0, .int .i64 0, .int .i64 0] 30)).alloc (.cells #[.int .i64 5, .int .i64 0, .int .i64 0, .int .u16 0, .int .u16 0, .int .u16 0, .slice none 0 0, .slice none 0 0, .int .i64 0, .int .i64 0, .int .i64 0, .int .i64 0] 30)).drewN d1).setCell ⟨w.heap.size + 1, 1, none⟩ (.int .i64 t)).drewN d3) = w3 := ⟨_, rfl⟩
  have hbel : Below (w.heap.size + 1) ((w.alloc (.cells #[.int .i64 0, .int .i64 0, .int .i64 0, .int .u16 0, .int .u16 0, .int .u16 0, .slice none 0 0, .slice none 0 0, .int .i64 0, .int .i64 0, .int .i64 0, .int .i64 0] 30)).alloc (.cells #[.int .i64 5, .int .i64 0, .int .i64 0, .int .u16 0, .int .u16 0, .int .u16 0, .slice none 0 0, .slice none 0 0, .int .i64 0, .int .i64 0, .int .i64 0, .int .i64 0] 30)) w3 := by rw [← hw3]; exact (below_drewN ((below_drewN (Below.refl (w.heap.size + 1) _) d1).setCell (p := ⟨w.heap.size + 1, 1, none⟩) (Nat.le_refl _) (.int .i64 t)) d3)
  have ha4 : WholeV w3 (w.heap.size + 1) 30 [.int .i64 5, .int .i64 t, .int .i64 0, .int .u16 0, .int .u16 0, .int .u16 0, .slice none 0 0, .slice none 0 0, .int .i64 0, .int .i64 0, .int .i64 0, .int .i64 0] := by rw [← hw3]; exact (((HG4.out.drewN d1).set 1 (.int .i64 t)).drewN d3)
  have ha2 : WholeV w3 w.heap.size 30 [.int .i64 0, .int .i64 0, .int .i64 0, .int .u16 0, .int .u16 0, .int .u16 0, .slice none 0 0, .slice none 0 0, .int .i64 0, .int .i64 0, .int .i64 0, .int .i64 0] := HG2.out.below hbel (by omega)
  have hab : Below w.heap.size w w3 := HKW.out.trans (hbel.mono (by omega))
  have hz3 : w.heap.size + 2 ≤ w3.heap.size := ha4.lt
  rw [hw3]
  have HA2 := Lib.hid ha2
  have HAB := Lib.hid hab
  obtain ⟨hq0, hq1, hq2, hq3, hq4, hq5, hq6, hq7, hq8, hq9, hq10, hq11⟩ := cells12 ha4
  obtain ⟨hp0, hp1, hp2, hp3, hp4, hp5, hp6, hp7, hp8, hp9, hp10, hp11⟩ := cells12 ha2
  obtain ⟨hf0, hf1, hf2, hf3, hf4, hf5, hf6, hf7, hf8, hf9, hf10, hf11⟩ := frozen12 ha2
  obtain ⟨w9, hw9, hwh, hbb⟩ := set12 ha2 hab (.int .i64 5) (.int .i64 t) (.int .i64 0) (.int .u16 0) (.int .u16 0) (.int .u16 0) (.slice none 0 0) (.slice none 0 0) (.int .i64 0) (.int .i64 0) (.int .i64 0) (.int .i64 0) rfl
  have HE := Lib.hid (cells12 hwh)
  have HBB := Lib.hid hbb
  have HW9 := Lib.hid hw9
  clear hwh hbb hw9
  clear ha2 ha4 hw3 hbel hab HR HX HRG HG4 HG2 HKW
  first | go_region_with (fail) | skip
  all_goals
    go_wp2
    rw [HW9.out]
    obtain ⟨he0, he1, he2, he3, he4, he5, he6, he7, he8, he9, he10, he11⟩ := HE.out
    exact bodyPost_ret (v := .tuple #[.agg #[.int .i64 5, .int .i64 t, .int .i64 0, .int .u16 0, .int .u16 0, .int .u16 0, .slice none 0 0, .slice none 0 0, .int .i64 0, .int .i64 0, .int .i64 0, .int .i64 0], .bool false]) (by simp [results, Try.results25, go_sem, he0, he1, he2, he3, he4, he5, he6, he7, he8, he9, he10, he11]) rfl ⟨rfl, HBB.out.drew⟩

end Go.Proofs.Ytebpilfogdenjaa

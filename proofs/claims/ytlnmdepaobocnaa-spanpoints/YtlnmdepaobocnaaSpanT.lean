/- The program's spans: stretch. No statement is proved here. -/
import Derived.Test.YtlnmdepaobocnaaSpan3
import Derived.Test.YtlnmdepaobocnaaSpanM
import Derived.Test.YtlnmdepaobocnaaOff
namespace Go.Proofs.Ytlnmdepaobocnaa
open Go.ChangeShapes Go.WideShapes Go.ChangeAt Go.RowKit
set_option linter.unusedVariables false
set_option linter.unusedSimpArgs false

theorem two_boxes3 (w : World) (a b : Array Value) (T : TypeId) : ∃ W, (w.alloc (.cells a T)).alloc (.cells b T) = W ∧ Below w.heap.size w W ∧ WholeV W w.heap.size T a.toList ∧ WholeV W (w.heap.size + 1) T b.toList := by
  have hk0 : Below w.heap.size w (w.alloc (.cells a T)) := (Below.refl _ _).alloc (Nat.le_refl _) _
  have hs1 : (w.alloc (.cells a T)).heap.size = w.heap.size + 1 := by simp
  have b0 : WholeV (w.alloc (.cells a T)) w.heap.size T a.toList := heap_alloc_new w _
  have b1 : WholeV ((w.alloc (.cells a T)).alloc (.cells b T)) (w.heap.size + 1) T b.toList := by rw [← hs1]; exact heap_alloc_new _ _
  exact ⟨_, rfl, hk0.alloc (by simp) _, b0.below ((Below.refl _ _).alloc (Nat.le_refl _) _) b0.lt, b1⟩
theorem getLast_at (l : List Sp) (n : Nat) (h : l.length = n + 1) (hne : l ≠ []) : l.getLast hne = l.getD n sp0 := by
  rw [List.getLast_eq_getElem, List.getD_eq_getElem?_getD, List.getElem?_eq_getElem (by omega)]
  simp [h]
theorem str_at (t f u : Int) (l : List Sp) (n : Nat) (h : l.length = n + 1) : strS (t, f, u) l = (t, min f (l.getD 0 sp0).2.1, max u (l.getD n sp0).2.2) := by
  cases l with
  | nil => simp at h
  | cons x r =>
    unfold strS
    simp only [getLast_at (x :: r) n h]
    rfl

theorem stretch_none (A : Option Addr) (c : Nat) (t f u : Int) (w : World) :
    Calls Try.prog 37 #[.agg #[.int .i64 t, .int .i64 f, .int .i64 u], .slice A 0 c] w fun e w' => e = .returned (spV (t, f, u)) ∧ Below w.heap.size w w' := by
  go_enter Try.func37, Try.ntmps37
  go_wp2
  obtain ⟨W, hW, hb, _, h0⟩ := two_boxes3 w #[.int .i64 t, .int .i64 f, .int .i64 u] #[.int .i64 t, .int .i64 f, .int .i64 u] 23
  have he0 := h0.cell 0
  have he1 := h0.cell 1
  have he2 := h0.cell 2
  rw [hW]
  exact bodyPost_ret (v := .agg #[.int .i64 t, .int .i64 f, .int .i64 u]) (by simp [results, Try.results37, go_sem, he0, he1, he2]) rfl ⟨rfl, hb⟩

theorem end_str {w W : World} (t f u f1 u1 : Int) (hk : Below w.heap.size w W) (hR : WholeV W (w.heap.size + 1) 23 [.int .i64 0, .int .i64 0, .int .i64 0]) :
    ∃ X, (((((W.setCell ⟨w.heap.size, 1, none⟩ (.int .i64 f1)).setCell ⟨w.heap.size, 2, none⟩ (.int .i64 u1)).setCell ⟨w.heap.size + 1, 0, none⟩ (.int .i64 t)).setCell ⟨w.heap.size + 1, 1, none⟩ (.int .i64 f1)).setCell ⟨w.heap.size + 1, 2, none⟩ (.int .i64 u1)).drew.drew = X ∧ Below w.heap.size w X ∧ WholeV X (w.heap.size + 1) 23 [.int .i64 t, .int .i64 f1, .int .i64 u1] := by
  have ho : Off (fun k => k = w.heap.size) W ((W.setCell ⟨w.heap.size, 1, none⟩ (.int .i64 f1)).setCell ⟨w.heap.size, 2, none⟩ (.int .i64 u1)) :=
    ((Off.refl (fun k => k = w.heap.size) W).setCell (p := ⟨w.heap.size, 1, none⟩) (.inl rfl) _).setCell (p := ⟨w.heap.size, 2, none⟩) (.inl rfl) _
  have h1 := (((ho.whole hR (by omega)).set 0 (.int .i64 t)).set 1 (.int .i64 f1)).set 2 (.int .i64 u1)
  have hb := ((((hk.setCell (p := ⟨w.heap.size, 1, none⟩) (Nat.le_refl _) (.int .i64 f1)).setCell (p := ⟨w.heap.size, 2, none⟩) (Nat.le_refl _) (.int .i64 u1)).setCell (p := ⟨w.heap.size + 1, 0, none⟩) (Nat.le_succ _) (.int .i64 t)).setCell (p := ⟨w.heap.size + 1, 1, none⟩) (Nat.le_succ _) (.int .i64 f1)).setCell (p := ⟨w.heap.size + 1, 2, none⟩) (Nat.le_succ _) (.int .i64 u1)
  obtain ⟨Y, hY⟩ : ∃ Y, ((W.setCell ⟨w.heap.size, 1, none⟩ (.int .i64 f1)).setCell ⟨w.heap.size, 2, none⟩ (.int .i64 u1)) = Y := ⟨_, rfl⟩
  rw [hY] at h1 hb ⊢
  obtain ⟨Z, hZ⟩ : ∃ Z, ((Y.setCell ⟨w.heap.size + 1, 0, none⟩ (.int .i64 t)).setCell ⟨w.heap.size + 1, 1, none⟩ (.int .i64 f1)).setCell ⟨w.heap.size + 1, 2, none⟩ (.int .i64 u1) = Z := ⟨_, rfl⟩
  rw [hZ] at h1 hb ⊢
  clear hY hZ ho
  have h2 : WholeV Z (w.heap.size + 1) 23 [.int .i64 t, .int .i64 f1, .int .i64 u1] := h1
  exact ⟨_, rfl, (hb.drew).drew, h2.drewN 2⟩

set_option maxRecDepth 100000 in
set_option maxHeartbeats 4000000 in
theorem stretch_some (A : Option Addr) (n c : Nat) (l : List Sp) (t f u : Int) (w : World) (hl : SL w A (n + 1) l) (hn : n ≤ 100000) :
    Calls Try.prog 37 #[.agg #[.int .i64 t, .int .i64 f, .int .i64 u], .slice A (n + 1) c] w fun e w' => e = .returned (spV (strS (t, f, u) l)) ∧ Below w.heap.size w w' := by
  obtain ⟨W, hW, hk, hA, hR⟩ := two_boxes3 w #[.int .i64 t, .int .i64 f, .int .i64 u] #[.int .i64 0, .int .i64 0, .int .i64 0] 23
  have hl' := hl.below hk
  rw [str_at t f u l n hl.len]
  obtain ⟨b0, off, rfl, hb0, c0, c1, c2⟩ := hl.at_ 0 (by omega)
  obtain ⟨b0', off', h0', hb0', d0, d1, d2⟩ := hl.at_ n (by omega)
  injection h0' with h0'
  injection h0' with q1 q2 q3
  subst q1 q2
  rw [Nat.zero_mul, Nat.add_zero] at c1
  have c1' := (hk.cell (p := ⟨b0, off + 1, none⟩) hb0).trans c1
  have d2' := (hk.cell (p := ⟨b0, off + n * 3 + 2, none⟩) hb0).trans d2
  have HNE := Lib.hid (Nat.ne_of_lt hb0)
  have hne1 : ¬ w.heap.size = b0 := by omega
  have hne2 : ¬ w.heap.size + 1 = b0 := by omega
  obtain ⟨xf, hxf⟩ : ∃ x, (l.getD 0 sp0).2.1 = x := ⟨_, rfl⟩
  obtain ⟨zu, hzu⟩ : ∃ x, (l.getD n sp0).2.2 = x := ⟨_, rfl⟩
  rw [hxf] at c1' ⊢
  rw [hzu] at d2' ⊢
  have a0 := hA.cell 0
  have a1 := hA.cell 1
  have a2 := hA.cell 2
  have r0 := hR.cell 0
  have r1 := hR.cell 1
  have r2 := hR.cell 2
  have fa1 := hA.frozen 1
  have fa2 := hA.frozen 2
  have fr0 := hR.frozen 0
  have fr1 := hR.frozen 1
  have fr2 := hR.frozen 2
  have hnn : (n : Int) < (n : Int) + 1 := by omega
  have HK := Lib.hid hk
  have HA := Lib.hid hA
  have HR := Lib.hid hR
  clear hk hA hR hl' hl c0 c1 c2 d0 d1 d2 hxf hzu q3 hb0' hb0
  by_cases g1 : xf < f
  · by_cases g2 : u < zu
    · rw [show min f xf = xf by omega, show max u zu = zu by omega]
      go_enter Try.func37, Try.ntmps37
      go_wp2
      go_region
      all_goals go_wp2
      all_goals go_region
      all_goals go_wp2
      all_goals
        obtain ⟨X, hX, hb, h0⟩ := end_str t f u xf zu HK.out HR.out
        have he0 := h0.cell 0
        have he1 := h0.cell 1
        have he2 := h0.cell 2
        rw [hX]
        exact bodyPost_ret (v := .agg #[.int .i64 t, .int .i64 xf, .int .i64 zu]) (by simp [results, Try.results37, go_sem, he0, he1, he2]) rfl ⟨rfl, hb⟩
    · rw [show min f xf = xf by omega, show max u zu = u by omega]
      go_enter Try.func37, Try.ntmps37
      go_wp2
      go_region
      all_goals go_wp2
      all_goals go_region
      all_goals go_wp2
      all_goals
        obtain ⟨X, hX, hb, h0⟩ := end_str t f u xf u HK.out HR.out
        have he0 := h0.cell 0
        have he1 := h0.cell 1
        have he2 := h0.cell 2
        rw [hX]
        exact bodyPost_ret (v := .agg #[.int .i64 t, .int .i64 xf, .int .i64 u]) (by simp [results, Try.results37, go_sem, he0, he1, he2]) rfl ⟨rfl, hb⟩
  · by_cases g2 : u < zu
    · rw [show min f xf = f by omega, show max u zu = zu by omega]
      go_enter Try.func37, Try.ntmps37
      go_wp2
      go_region
      all_goals go_wp2
      all_goals go_region
      all_goals go_wp2
      all_goals
        obtain ⟨X, hX, hb, h0⟩ := end_str t f u f zu HK.out HR.out
        have he0 := h0.cell 0
        have he1 := h0.cell 1
        have he2 := h0.cell 2
        rw [hX]
        exact bodyPost_ret (v := .agg #[.int .i64 t, .int .i64 f, .int .i64 zu]) (by simp [results, Try.results37, go_sem, he0, he1, he2]) rfl ⟨rfl, hb⟩
    · rw [show min f xf = f by omega, show max u zu = u by omega]
      go_enter Try.func37, Try.ntmps37
      go_wp2
      go_region
      all_goals go_wp2
      all_goals go_region
      all_goals go_wp2
      all_goals
        obtain ⟨X, hX, hb, h0⟩ := end_str t f u f u HK.out HR.out
        have he0 := h0.cell 0
        have he1 := h0.cell 1
        have he2 := h0.cell 2
        rw [hX]
        exact bodyPost_ret (v := .agg #[.int .i64 t, .int .i64 f, .int .i64 u]) (by simp [results, Try.results37, go_sem, he0, he1, he2]) rfl ⟨rfl, hb⟩

end Go.Proofs.Ytlnmdepaobocnaa

/- Package adu: Bytes. -/
import Derived.Test.YtoljpdamalcjeaaHeadRef
import Derived.Laws.CopyOwn
import Derived.Deep.RegionLaw
namespace Go.Proofs.Ytoljpdamalcjeaa
open Go.ChangeShapes Go.WideShapes Go.ChangeAt Go.RowKit
set_option linter.unusedVariables false
set_option linter.unusedSimpArgs false

theorem box3 (a0 a1 a2 : Value) (T : TypeId) (w w' : World) (h : Below (w.heap.size + 1) (w.alloc (.cells #[a0, a1, a2] T)) w') : WholeV w' w.heap.size T [a0, a1, a2] := by
  have h0 : WholeV (w.alloc (.cells #[a0, a1, a2] T)) w.heap.size T [a0, a1, a2] := heap_alloc_new w _
  exact (h.block w.heap.size (by omega)).trans h0
theorem below_alloc1 {w w' : World} {o : Obj} (h : Below (w.alloc o).heap.size (w.alloc o) w') : Below (w.heap.size + 1) (w.alloc o) w' := by
  rwa [show (w.alloc o).heap.size = w.heap.size + 1 by simp] at h
theorem below_alloc0 {w w' : World} {o : Obj} (h : Below (w.heap.size + 1) (w.alloc o) w') : Below w.heap.size w w' := ((Below.refl w.heap.size w).alloc (Nat.le_refl _) o).trans (h.mono (by omega))
theorem splice_behind (H cs : List Value) (k n : Nat) (z : Value) (hk : H.length = k) (hn : cs.length = n) : splice (H ++ List.replicate n z) k cs = H ++ cs := by
  unfold splice
  subst hk hn
  simp

set_option maxRecDepth 100000 in
set_option maxHeartbeats 1000000 in
theorem abytes_yes (A : Option Addr) (n c : Nat) (zs : List Int) (t u : Int) (w : World) (hr : Row .u8 w w.heap.size A n zs) (h : hFits t (1 + n) u) :
    Calls Try.prog 15 #[.agg #[.int .i64 t, .int .i64 u, .slice A n c]] w fun e w' => ∃ g, e = .returned (.tuple #[.slice (some ⟨g, 0, none⟩) (7 + n) (7 + n), .int .i64 0]) ∧ w.heap.size ≤ g ∧ Whole .u8 w' g 5 (headOf t (1 + n) u ++ zs) ∧ Below w.heap.size w w' := by
  obtain ⟨⟨t0, t1⟩, ⟨l0, l1⟩, u0, u1⟩ := id h
  have hn1 : 1 ≤ n := by omega
  have hn2 : n ≤ 253 := by omega
  obtain ⟨hs, hhs⟩ : ∃ hs, hs = (headOf t (1 + n) u).map (Value.int .u8) := ⟨_, rfl⟩
  have HHL : Hid (hs.length = 7) := by rw [hhs]; rfl
  have HH1 : Hid (∀ u ∈ hs, u.oneCell' = true) := by rw [hhs]; exact one_cells _ _
  have C1 := Lib.hid (fun W => hput_yes t (1 + (n : Int)) u W h)
  rw [← hhs] at C1
  have HHS := Lib.hid hhs
  obtain ⟨ad, hA, had, hsrc⟩ := hr.src (by omega)
  obtain ⟨cs, hcs⟩ : ∃ cs, cs = zs.map (Value.int .u8) := ⟨_, rfl⟩
  rw [← hcs] at hsrc
  have HSR := Lib.hid hsrc
  have HA := Lib.hid hA
  have HC := Lib.hid hcs
  have HL : Hid (cs.length = n) := by rw [hcs, List.length_map]; exact hr.1
  have H1 : Hid (∀ u ∈ cs, u.oneCell' = true) := by rw [hcs]; exact one_cells _ zs
  have hmk : ∀ W : World, (Instr.makeSlice 22 (.int .i64 (7 + ↑n)) (.int .i64 (7 + ↑n))).run Try.prog W = .ok (.slice (some ⟨W.heap.size, 0, none⟩) (7 + n) (7 + n)) (W.alloc (.cells ((List.replicate (7 + n) (0 : Int)).map (Value.int .u8)).toArray 5)) :=
    fun W => make_bytes (7 + n) (by omega) W
  clear hr h hcs hhs t0 t1 l0 l1 u0 u1 hsrc hA
  go_enter Try.func15, Try.ntmps15
  go_wp2_with (first
    | (go_at_call 46
       refine (C1.out _).mono ?_
       rintro e w2 ⟨g2, c2, rfl, ho, hb2⟩
       replace hb2 := below_alloc1 hb2
       have HX2 := Lib.hid (box3 _ _ _ _ _ _ hb2)
       have HB2 := Lib.hid (below_alloc0 hb2)
       have HO2 := Lib.hid (own_row ho)
       have HSO : Hid (∃ ad : Addr, (some ⟨g2, 0, none⟩ : Option Addr) = some ad ∧ ∀ j v, hs[j]? = some v → (w2.alloc (.cells (Array.replicate (7 + n) (Value.int .u8 0)) 5)).cell? (ad.add j) = some v) := by
         obtain ⟨ad, e, hb, hc⟩ := HO2.out.src (by omega)
         refine ⟨ad, e, fun j v hv => Eq.trans (World.cell?_alloc_lt w2 _ _ ?_) (hc j v hv)⟩
         unfold Addr.add; split <;> exact hb
       have hx2 : w2.cell? ⟨w.heap.size, 2, none⟩ = some (.slice A n c) := HX2.out.cell 2
       have hlt2 : w.heap.size < w2.heap.size := HX2.out.lt
       clear ho hb2)
    | (with_reducible refine wpList_copy_splice (o := ⟨some 30, _, _, _, _, _⟩) rfl _ _ 22 22 rfl 5 Try.underlying22 (by kernel_rfl) _ _ (7 + n) (7 + n) 7 c2 rfl rfl w2.heap.size 0 (List.replicate (7 + n) (Value.int .u8 0)) 5 (by rw [List.toArray_replicate]; exact heap_alloc_new w2 _) hs (by rw [HHL.out]; exact (Nat.min_eq_left (by omega)).symm) (fun h0 => ⟨rfl, HSO.out⟩) (by rw [List.length_replicate, HHL.out]; omega) HH1.out w2.heap.size w2 ((Below.refl _ _).alloc (Nat.le_refl _) _) (Nat.le_refl _) ?_
       intro w3 HG hB
       have HW3 : Hid (WholeV w3 w2.heap.size 5 (hs ++ List.replicate n (Value.int .u8 0))) := by
         have hg0 := HG.out
         rw [splice_any 7 n hs _ HHL.out] at hg0
         exact hg0
       have HB3 := Lib.hid hB
       have hx3 : w3.cell? ⟨w.heap.size, 2, none⟩ = some (.slice A n c) := (hB.cell hlt2).trans hx2
       have hlt3 : w2.heap.size < w3.heap.size := HW3.out.lt
       clear hB HG))
  have h7n : (7 : Int) ≤ 7 + (n : Int) := by omega
  have hn0 : ¬ n = 0 := by omega
  go_region_law (first
    | (refine step_copy_splice rfl (.tmp 32) (.tmp 34) 22 22 rfl 5 Try.underlying22 (by kernel_rfl) (some ⟨w2.heap.size, 7, none⟩) A n n n c rfl rfl w2.heap.size 7 (hs ++ List.replicate n (Value.int .u8 0)) 5 HW3.out cs (by rw [HL.out]; exact (Nat.min_self n).symm) (fun h0 => ⟨rfl, ad, HA.out, fun j v hv => (HB3.out.cell (by have := had; unfold Addr.add; split <;> (simp; omega))).trans ((HB2.out.cell (by unfold Addr.add; split <;> exact had)).trans (HSR.out j v hv))⟩) (by simp [HHL.out, HL.out]) H1.out w2.heap.size w2 HB3.out.drew (Nat.le_refl _) ?_
       intro w4 HG4 hB4
       have HW4 : Hid (WholeV w4 w2.heap.size 5 (hs ++ cs)) := by
         have hg0 := HG4.out
         rw [splice_behind hs cs 7 n _ HHL.out HL.out] at hg0
         exact hg0
       have HB4 := Lib.hid hB4
       clear hB4 HG4))
  all_goals
    go_wp2
    go_ret2
    exact ⟨w2.heap.size, rfl, by omega, (by have h := HW4.out; rw [HHS.out, HC.out, ← List.map_append] at h; exact h), HB2.out.trans (HB4.out.mono HB2.out.size)⟩

end Go.Proofs.Ytoljpdamalcjeaa

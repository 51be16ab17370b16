/- The document's frames: FrameBytes. -/
import Derived.Test.YthmendcdfhlkkaaAdu2
namespace Go.Proofs.Ythmendcdfhlkkaa
open Go.ChangeShapes Go.WideShapes Go.ChangeAt Go.RowKit
set_option linter.unusedVariables false
set_option linter.unusedSimpArgs false

set_option maxRecDepth 100000 in
set_option maxHeartbeats 1000000 in
theorem rframe_yes (A : Option Addr) (n c : Nat) (zs : List Int) (t u : Int) (w : World) (hr : Row .u8 w w.heap.size A n zs) (h : hFits t ((n : Int) + 1) u) :
    Calls Try.prog 38 #[.agg #[.int .i64 t, .int .i64 u, .slice A n c]] w fun e w' => ∃ B d, e = .returned (.tuple #[.slice B (7 + n) d, .int .i64 0]) ∧ w'.ownsRow w.heap.size 5 1 (.slice B (7 + n) d) (7 + n) ((headOf t ((n : Int) + 1) u ++ zs).map (Value.int .u8)) ∧ Below w.heap.size w w' := by
  obtain ⟨⟨t0, t1⟩, ⟨l0, l1⟩, u0, u1⟩ := id h
  have hn1 : ¬ (n : Int) < 1 := by omega
  have hn2 : ¬ (253 : Int) < (n : Int) := by omega
  have hn3 : n ≤ 253 := by omega
  have C1 := Lib.hid (fun W => rput_yes t ((n : Int) + 1) u W h)
  have HR := Lib.hid (fun W (hb : Below w.heap.size w W) => ((hr.below hb).more hb.size).v)
  clear hr h t0 t1 l0 l1 u0 u1
  go_enter Try.func38, Try.ntmps38
  go_wp2_with (first
    | (go_at_call 84
       refine (C1.out _).mono ?_
       rintro e w2 ⟨g2, c2, rfl, ho, hb2⟩
       replace hb2 := below_alloc1 hb2
       have HX2 := Lib.hid (box3 _ _ _ _ _ _ hb2)
       have HB2 := Lib.hid (below_alloc0 hb2)
       have HO2 := Lib.hid (own_mono (b' := w.heap.size) ho (by simp))
       have hx2 : w2.cell? ⟨w.heap.size, 2, none⟩ = some (.slice A n c) := HX2.out.cell 2
       have hlt2 : w.heap.size < w2.heap.size := HX2.out.lt
       clear ho hb2)
    | (at_builtin
       refine wpList_append_row _ (o := ⟨some 35, _, _, _, _, _⟩) rfl (.tmp 32) (.tmp 34) 22 rfl w.heap.size 5 (.int .u8 0) 1 Try.underlying22 info5 rfl (.slice (some ⟨g2, 0, none⟩) 7 c2) 7 _ rfl HO2.out _ A n c _ rfl (HR.out _ HB2.out) (one_cells _ _) (by omega) (by omega) HB2.out.size ?_
       intro v3 w3 hown hg hat
       rw [← List.map_append] at hown
       obtain ⟨B, d, rfl⟩ := own_slice hown
       have HO3 := Lib.hid hown
       have HB3 := Lib.hid (below_append HB2.out HO2.out hg HB2.out.size)
       clear hown hg hat))
  go_ret2
  exact ⟨B, d, rfl, HO3.out, HB3.out⟩

set_option maxRecDepth 100000 in
set_option maxHeartbeats 1000000 in
theorem rframe_no (A : Option Addr) (n c : Nat) (t u : Int) (w : World) (hn : n ≤ 1000000) (h : ¬ hFits t ((n : Int) + 1) u) :
    Calls Try.prog 38 #[.agg #[.int .i64 t, .int .i64 u, .slice A n c]] w fun e w' => e = .returned (.tuple #[.slice none 0 0, .int .i64 1]) ∧ Below w.heap.size w w' := by
  have C1 := Lib.hid (fun W => rput_no t ((n : Int) + 1) u W h)
  clear h
  by_cases hn1 : (n : Int) < 1
  · go_enter Try.func38, Try.ntmps38
    go_wp2
    go_ret2
    exact ⟨rfl, (Below.refl _ _).alloc (Nat.le_refl _) _⟩
  · by_cases hn2 : (253 : Int) < (n : Int)
    · have hn3 : 1 ≤ (n : Int) := by omega
      go_enter Try.func38, Try.ntmps38
      go_wp2
      go_ret2
      exact ⟨rfl, (Below.refl _ _).alloc (Nat.le_refl _) _⟩
    · go_enter Try.func38, Try.ntmps38
      go_wp2_with (first
        | (go_at_call 84
           refine (C1.out _).mono ?_
           rintro e w2 ⟨rfl, hb2⟩
           have HB2 := Lib.hid (below_alloc0 (below_alloc1 hb2))
           clear hb2))
      go_ret2
      exact ⟨rfl, HB2.out⟩

end Go.Proofs.Ythmendcdfhlkkaa

/- The document's queues: Put. -/
import Derived.Test.YthmendcdfhlkkaaRefRing
import Derived.Deep.RegionLaw
import Derived.Deep.RegionHeld3
namespace Go.Proofs.Ythmendcdfhlkkaa
open Go.ChangeShapes Go.WideShapes Go.ChangeAt Go.RowKit
set_option linter.unusedVariables false
set_option linter.unusedSimpArgs false

section
variable (w : World) (x base M : Nat) (qs : List Int)

/-- What the document's Put leaves. -/
def RefPutten (m : Nat) (zs : List Int) (e : Ending) (w' : World) : Prop := e = .returned (.int .i64 (m : Int)) ∧ RefAt w' x w.heap.size M (qs ++ zs.take m) ∧ Off (fun k => k = x) w w'

theorem refputten_end (h : RefAt w x base M qs) (m k : Nat) (zs : List Int) (hm : (zs.take m).length = m) (hq : qs.length + m ≤ M) (hk : qs.length + m = k) (A0 A2 : Option Addr) (c0 c2 : Nat) (w2 : World) (hg : WholeV w x 72 [.int .i64 (M : Int), .slice A0 qs.length c0])
    (ho2 : w2.ownsRow w.heap.size 5 1 (.slice A2 k c2) k (qs.map (Value.int .u8) ++ (zs.take m).map (Value.int .u8))) (hb : Below w.heap.size w w2) :
    RefPutten w x M qs m zs (.returned (.int .i64 (m : Int))) (w2.setCell ⟨x, 1, none⟩ (.slice A2 k c2)) := by
  subst hk
  have hx : x < w.heap.size := hg.lt
  have hg2 : WholeV w2 x _ _ := hg.below hb hx
  refine ⟨rfl, ⟨hx, ?_, by rw [List.length_append, hm]; omega, h.most, A2, c2, ?_, ?_⟩, (Off.of_below (S := fun k => k = x) hb).setCell (p := ⟨x, 1, none⟩) (.inl rfl) _⟩
  · have := hb.size
    simp [World.setCell]
    omega
  · rw [List.length_append, hm]
    exact hg2.set 1 (.slice A2 (qs.length + m) c2)
  · rw [List.length_append, hm, List.map_append]
    exact ownsRow_setCell_below ho2 (a := ⟨x, 1, none⟩) hx _

set_option maxRecDepth 100000 in
set_option maxHeartbeats 4000000 in
theorem refput9 (A : Option Addr) (n c : Nat) (zs : List Int) (m : Nat) (h : RefAt w x base M qs) (hr : Row .u8 w w.heap.size A n zs) (hn : n ≤ 100000) (hc : n ≤ c) (hm : m = min n (M - qs.length)) :
    Calls Try.prog 73 #[.pointer (some ⟨x, 0, none⟩), .slice A n c] w (RefPutten w x M qs m zs) := by
  obtain ⟨A0, c0, hg, ho⟩ := h.row
  have hqM := h.room
  have hM := h.most
  have hl := hr.1
  have hmt : (zs.take m).length = m := by rw [List.length_take]; omega
  obtain ⟨K, hK⟩ : ∃ K, qs.length + m = K := ⟨_, rfl⟩
  have HE := Lib.hid (fun A2 c2 w2 => refputten_end w x base M qs h m K zs hmt (by omega) hK A0 A2 c0 c2 w2 hg)
  have h0 := hg.cell 0
  have h1 := hg.cell 1
  simp only [List.getElem?_cons_succ, List.getElem?_cons_zero] at h0 h1
  have hqc := own_capI ho
  have hx : x < w.heap.size := hg.lt
  have HG := Lib.hid hg
  have HRQ := Lib.hid (own_row ho)
  have hrm : RowV w w.heap.size A m ((zs.take m).map (Value.int .u8)) := by
    have h2 := hr.v
    have e : n = m + (n - m) := by omega
    rw [e, ← List.take_append_drop m zs, List.map_append] at h2
    exact h2.front (by rw [List.length_map]; exact hmt)
  have HRM := Lib.hid hrm
  obtain ⟨X, hX⟩ : ∃ X, X = (zs.take m).map (Value.int .u8) := ⟨_, rfl⟩
  obtain ⟨Y, hY⟩ : ∃ Y, Y = qs.map (Value.int .u8) := ⟨_, rfl⟩
  have HX1 : Hid (∀ u ∈ X, u.oneCell' = true) := by rw [hX]; exact one_cells _ _
  have HY1 : Hid (∀ u ∈ Y, u.oneCell' = true) := by rw [hY]; exact one_cells _ _
  rw [← hX] at HRM HE
  rw [← hY] at HRQ HE
  obtain ⟨q, hq⟩ : ∃ q, qs.length = q := ⟨_, rfl⟩
  rw [hq] at h1 hqc hqM HG HRQ hm hK
  obtain ⟨R, hR⟩ : ∃ R, q + R = M := ⟨M - q, by omega⟩
  have hw : IntKind.i64.wrap ((M : Int) - (q : Int)) = (R : Int) := by rw [IntWalk.i64_in _ (by omega)]; omega
  have e2 : (if R < n then (R : Int) else (n : Int)) = (m : Int) := by
    by_cases hlt : R < n
    · rw [if_pos hlt]; omega
    · rw [if_neg hlt]; omega
  have hmc : (m : Int) ≤ (c : Int) := by omega
  have hmn : m ≤ n := by omega
  have hKK := Lib.hid hK
  have KS : Hid (∀ W, Below w.heap.size w W → W.cell? ⟨x, 0, none⟩ = some (.int .i64 (M : Int)) ∧ W.cell? ⟨x, 1, none⟩ = some (.slice A0 q c0)) := fun W hW => ⟨(hW.cell (p := ⟨x, 0, none⟩) hx).trans h0, (hW.cell (p := ⟨x, 1, none⟩) hx).trans h1⟩
  clear h hg ho hr hl hmt hrm hX hY hq hm hR hK
  go_enter Try.func73, Try.ntmps73
  go_wp2
  go_region_held3 (fun W => W.cell? ⟨x, 0, none⟩ = some (.int .i64 (M : Int)) ∧ W.cell? ⟨x, 1, none⟩ = some (.slice A0 q c0)) (first | exact KS.out _ (Below.refl _ _).drew) (fail)
  all_goals go_wp2
  all_goals
    go_region_law (first
      | (refine step_append_to (.const (.slice none 0 0)) (.tmp 23) 22 w.heap.size 5 (.int .u8 0) 1 Try.underlying22 info5 rfl (.slice none 0 0) 0 [] q Y q Y (by omega) rfl HY1.out (by omega) (by omega) ⟨rfl, rfl, rfl⟩ (own_none _ _ _) ⟨A0, c0, by first | rfl | (simp [eval_put_tmp, size_put]; done) | (simp [eval_put_tmp, size_put]; simp [Act.eval]; done) | (simp [Act.eval]; done), HRQ.out⟩ (Nat.le_refl _) ?_
         intro A5 c5 w5 hown5 hg5
         have HO5 := Lib.hid hown5
         have HB5 := Lib.hid (below_append (Below.refl w.heap.size w).drew.drew (own_none _ _ 5) hg5 (Nat.le_refl _))
         have HM5 := Lib.hid ((HRM.out.below HB5.out).more HB5.out.size)
         have c51 := (HB5.out.cell (p := ⟨x, 1, none⟩) hx).trans h1
         have f51 := (HB5.out.frozen (p := ⟨x, 1, none⟩) hx).trans (HG.out.frozen 1)
         clear hown5 hg5)
      | (refine step_append_to (.tmp 24) (.tmp 27) 22 w.heap.size 5 (.int .u8 0) 1 Try.underlying22 info5 rfl (.slice A5 q c5) q Y m X K (Y ++ X) hKK.out rfl HX1.out (by omega) (by omega) ⟨rfl, rfl, by first | rfl | (simp [eval_put_tmp, size_put]; done) | (simp [eval_put_tmp, size_put]; simp [Act.eval]; done) | (simp [Act.eval]; done)⟩ HO5.out ⟨A, c, by first | rfl | (simp [eval_put_tmp, size_put]; done) | (simp [eval_put_tmp, size_put]; simp [Act.eval]; done) | (simp [Act.eval]; done), HM5.out⟩ HB5.out.size ?_
         intro A6 c6 w6 hown6 hg6
         have HO6 := Lib.hid hown6
         have HB6 := Lib.hid (below_append HB5.out HO5.out hg6 HB5.out.size)
         have c61 := (HB6.out.cell (p := ⟨x, 1, none⟩) hx).trans h1
         have f61 := (HB6.out.frozen (p := ⟨x, 1, none⟩) hx).trans (HG.out.frozen 1)
         clear hown6 hg6))
    all_goals
      go_wp2
      go_ret
      exact HE.out A6 c6 w6 HO6.out HB6.out

end

end Go.Proofs.Ythmendcdfhlkkaa

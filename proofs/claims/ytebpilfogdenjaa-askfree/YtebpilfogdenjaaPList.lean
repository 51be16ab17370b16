/- putList onto a row of one's own. -/
import Derived.Test.YtebpilfogdenjaaStep
namespace Go.Proofs.Ytebpilfogdenjaa
open Go.ChangeShapes Go.WideShapes Go.ChangeAt Go.RowKit
set_option linter.unusedVariables false
set_option linter.unusedSimpArgs false

/-- A row outside of a block, behind an append onto that block. -/
theorem far_row {k : IntKind} {w w' : World} {B : Option Addr} {m g : Nat} {ls : List Int} (h : Row k w w.heap.size B m ls) (hf : ∀ ad : Addr, B = some ad → ad.block ≠ g) (hg : w.grownBy w' (some g)) : Row k w' w'.heap.size B m ls := by
  refine ⟨h.1, fun hn => ?_⟩
  obtain ⟨b, off, e, hb, hc⟩ := h.2 hn
  refine ⟨b, off, e, Nat.lt_of_lt_of_le hb hg.size, fun j hj => ?_⟩
  exact hg.cell (hc j hj) (by have := hf _ e; simpa using this)
/-- putList onto a row of one's own. -/
theorem pputlist_any (g n c : Nat) (zs : List Int) (B : Option Addr) (m d : Nat) (ls : List Int) (w : World) (hr : w.ownsRow g 5 1 (.slice (some ⟨g, 0, none⟩) n c) n (zs.map (Value.int .u8))) (hl : Row .u8 w w.heap.size B m ls) (hg : g < w.heap.size) (hf : ∀ ad : Addr, B = some ad → ad.block ≠ g) (hn : n ≤ 1000) (hm : m ≤ 255) :
    Calls Try.prog 29 #[.slice (some ⟨g, 0, none⟩) n c, .slice B m d] w fun e w' => ∃ C cc, e = .returned (.slice C (n + 1 + m) cc) ∧ w'.ownsRow g 5 1 (.slice C (n + 1 + m) cc) (n + 1 + m) ((zs ++ [(m : Int)] ++ ls).map (Value.int .u8)) ∧ Below g w w' := by
  have HL := Lib.hid hl
  have HF := Lib.hid hf
  have HO := Lib.hid (hr.alloc (.cells #[.int .u8 (m : Int)] 5))
  have hw1 : WholeV (w.alloc (.cells #[.int .u8 (m : Int)] 5)) w.heap.size 5 [.int .u8 (m : Int)] := heap_alloc_new w _
  have HW := Lib.hid hw1.row
  have HB : Hid (Below g w (w.alloc (.cells #[.int .u8 (m : Int)] 5))) := (Below.refl _ _).alloc (by omega) _
  have hbl : Below w.heap.size w (w.alloc (.cells #[.int .u8 (m : Int)] 5)) := (Below.refl _ _).alloc (Nat.le_refl _) _
  have HL1 := Lib.hid ((hl.below hbl).more hbl.size)
  have wm : IntKind.u8.wrap (m : Int) = m := IntWalk.u8_in _ (by omega)
  have hsz : g ≤ (w.alloc (.cells #[.int .u8 (m : Int)] 5)).heap.size := by simp; omega
  have HSZ := Lib.hid hsz
  clear hr hl hf hw1 hbl hsz
  go_enter Try.func29, Try.ntmps29
  go_wp2_with (first
    | (at_builtin
       refine wpList_append_row _ (o := ⟨some 10, _, _, _, _, _⟩) rfl (.tmp 5) (.tmp 9) 22 rfl g 5 (.int .u8 0) 1 Try.underlying22 info5 rfl (.slice (some ⟨g, 0, none⟩) n c) n _ rfl HO.out _ (some ⟨w.heap.size, 0, none⟩) 1 1 _ rfl HW.out (by simp [Value.oneCell']) (by omega) (by omega) HSZ.out ?_
       intro v1 w1 hown1 hg1 hat1
       obtain ⟨A1, c1, rfl⟩ := own_slice hown1
       have HB1 := Lib.hid (below_append HB.out HO.out hg1 HSZ.out)
       have HL2 := Lib.hid (far_row HL1.out HF.out hg1)
       have HO1 := Lib.hid hown1
       have HS1 : Hid (g ≤ w1.heap.size) := Nat.le_trans HSZ.out hg1.size
       clear hown1 hg1 hat1)
    | (at_builtin
       refine wpList_append_row _ (o := ⟨some 13, _, _, _, _, _⟩) rfl (.tmp 11) (.tmp 12) 22 rfl g 5 (.int .u8 0) 1 Try.underlying22 info5 rfl (.slice A1 (n + 1) c1) (n + 1) _ rfl HO1.out _ B m d _ rfl HL2.out.v (one_cells _ _) (by omega) (by omega) HS1.out ?_
       intro v2 w2 hown2 hg2 hat2
       obtain ⟨A2, c2, rfl⟩ := own_slice hown2
       have HB2 := Lib.hid (below_append HB1.out HO1.out hg2 HS1.out)
       have HO2 := Lib.hid hown2
       clear hown2 hg2 hat2))
  go_ret
  refine ⟨A2, c2, rfl, ?_, HB2.out⟩
  have e : (zs ++ [(m : Int)] ++ ls).map (Value.int .u8) = zs.map (Value.int .u8) ++ [.int .u8 (m : Int)] ++ ls.map (Value.int .u8) := by simp
  rw [e]
  exact HO2.out

theorem built_ints (k : IntKind) (X W : World) (zs : List Int) (T : TypeId) (h : Below (X.alloc (.cells (zs.map (Value.int k)).toArray T)).heap.size (X.alloc (.cells (zs.map (Value.int k)).toArray T)) W) : Row k W W.heap.size (some ⟨X.heap.size, 0, none⟩) zs.length zs := by
  have h1 := built_row X W (zs.map (Value.int k)) T h
  rw [List.length_map] at h1
  exact h1.ints

end Go.Proofs.Ytebpilfogdenjaa

/- The examples of chapter 4. -/
import Derived.Test.YtkaggkbjepggkaaHeadRef
namespace Go.Proofs.Ytkaggkbjepggkaa
open Go.ChangeShapes Go.WideShapes Go.ChangeAt Go.RowKit
set_option linter.unusedVariables false

theorem head_str : strOfNums (headOf 1 6 17) = ⟨#[0, 1, 0, 0, 0, 6, 17]⟩ := by decide +kernel
theorem get_example (w : World) (W : World) (hb : Below w.heap.size w W) (hw : Whole .u8 W w.heap.size 5 [0, 1, 0, 1, 0, 6]) :
    Calls Try.prog 9 #[.slice (some ⟨w.heap.size, 0, none⟩) 6 6] W fun e w' => e = .returned (.tuple #[.agg #[.int .i64 0, .int .i64 0, .int .i64 0], .int .i64 2]) ∧ Below w.heap.size w w' ∧ w.heap.size ≤ w'.heap.size := by
  refine (hget_wrong _ 6 6 [0, 1, 0, 1, 0, 6] W hw.row (by intro x hx; simp at hx; omega) (by omega) (by omega) (by decide)).mono fun e w' ⟨he, h2⟩ => ⟨he, hb.trans (h2.mono hb.size), ?_⟩
  have := hb.size; have := h2.size; omega

theorem awake_any (w : World) : Calls Try.prog 6 #[] w fun e w' => e = .returned (.bool true) ∧ Below w.heap.size w w' := by
  have hf : hFits 1 6 17 := by decide
  have HF := Lib.hid hf
  clear hf
  go_enter Try.func6, Try.ntmps6
  go_wp2_with (first
    | (go_at_call 7
       refine (hput_yes 1 6 17 _ HF.out).mono ?_
       rintro e w1 ⟨g1, c1, rfl, ho1, hb1⟩
       have HO1 := Lib.hid ho1
       have HB1 := Lib.hid hb1
       clear ho1 hb1)
    | (go_at_call 9
       refine (get_example w1 _ ((Below.refl _ _).alloc (Nat.le_refl _) _) (heap_alloc_new w1 _)).mono ?_
       rintro e w2 ⟨rfl, hb2, hz2⟩
       have hb3 : Below w1.heap.size w1 (w2.alloc (.cells #[.int .i64 0, .int .i64 0, .int .i64 0] 28)) := hb2.alloc hz2 _
       have hc := conv_row _ 7 c1 (headOf 1 6 17) _ (((own_row HO1.out).ints.below hb3).more hb3.size)
       rw [head_str] at hc
       have HB3 := Lib.hid (HB1.out.trans (hb3.mono HB1.out.size))
       clear hb3 hb2 hz2))
  go_ret
  exact ⟨rfl, HB3.out⟩

end Go.Proofs.Ytkaggkbjepggkaa

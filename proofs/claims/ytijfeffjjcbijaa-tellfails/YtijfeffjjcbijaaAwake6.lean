/- Package tell: Fail; Parse of an exception; the examples of chapter 6. -/
import Derived.Test.YtijfeffjjcbijaaPFieldB
import Derived.Test.YtijfeffjjcbijaaPFieldX
import Derived.Test.YtijfeffjjcbijaaPParseT
import Derived.Test.YtijfeffjjcbijaaPBytesX
namespace Go.Proofs.Ytijfeffjjcbijaa
open Go.ChangeShapes Go.WideShapes Go.ChangeAt Go.RowKit
set_option linter.unusedVariables false
set_option linter.unusedSimpArgs false

theorem pfail_any (fn ex : Int) (w : World) :
    Calls Try.prog 49 #[.int .i64 fn, .int .i64 ex] w fun e w' => e = .returned (.agg #[.int .i64 fn, .int .i64 ex, .slice none 0 0, .slice none 0 0, .int .i64 0, .int .i64 0, .int .u16 0, .int .u16 0, .int .u16 0, .int .i64 0, .int .i64 0, .bool false, .int .i64 0, .slice none 0 0]) ∧ Below w.heap.size w w' := by
  go_enter Try.func49, Try.ntmps49
  go_wp2
  exact bodyPost_ret (v := .agg #[.int .i64 fn, .int .i64 ex, .slice none 0 0, .slice none 0 0, .int .i64 0, .int .i64 0, .int .u16 0, .int .u16 0, .int .u16 0, .int .i64 0, .int .i64 0, .bool false, .int .i64 0, .slice none 0 0]) (by simp [results, Try.results49, go_sem]) rfl ⟨rfl, (Below.refl _ _).alloc (Nat.le_refl _) _⟩
theorem wide0 : WideT 0 0 0 0 0 0 0 0 := by constructor <;> omega
/-- Parse of an exception's two bytes. -/
theorem pparse_exc (A : Option Addr) (c : Nat) (m : Int) (w : World) (f x : Int) (zs : List Int) (hr : Row .u8 w w.heap.size A 2 zs) (hx : Bytes8 zs) (h0 : zs.getD 0 0 = f) (hf : 128 ≤ f) (h1 : zs.getD 1 0 = x) (hz : x = 1 ∨ x = 2 ∨ x = 3 ∨ x = 4 ∨ x = 6) :
    Calls Try.prog 45 #[.slice A 2 c, .int .i64 m] w fun e w' => ∃ BA bc WA wc OA oc, e = .returned (.tuple #[.agg #[.int .i64 (f - 128), .int .i64 x, .slice BA 0 bc, .slice WA 0 wc, .int .i64 0, .int .i64 0, .int .u16 0, .int .u16 0, .int .u16 0, .int .i64 0, .int .i64 0, .bool false, .int .i64 0, .slice OA 0 oc], .int .i64 0]) ∧ Below w.heap.size w w' := by
  have hbf := hx.at_ 0
  change 0 ≤ zs.getD 0 0 ∧ zs.getD 0 0 ≤ 255 at hbf
  rw [h0] at hbf
  refine (pp_ok A 2 c m w (f - 128) x 0 0 0 0 0 0 0 0 0 false 0 0 true (fun _ _ _ _ _ _ _ _ => True) ?_ (fun _ _ _ _ _ _ _ _ _ _ _ => trivial) (fun _ _ _ _ _ _ _ _ _ _ _ _ => trivial) (fun _ X _ _ _ _ OA oc _ => fits_nil X OA oc) wide0 (decide_eq_true ((tell_exc (by omega)).2 ⟨hz, by omega, by decide⟩))).mono fun e w' ⟨BA, bc, WA, wc, OA, oc, h1, _, h3⟩ => ⟨BA, bc, WA, wc, OA, oc, h1, h3⟩
  intro W hW
  refine (pfT_exc A 2 c zs m W f x ((hr.below hW).more hW.size) hx rfl h0 hf h1).mono fun e w' ⟨he, hb⟩ => ⟨none, 0, none, 0, none, 0, ?_, trivial, hb⟩
  rw [he, decide_eq_true (show x ≠ 0 by omega)]

theorem bits5 : unb ([1, 1, 5].drop 2) 3 = [true, false, true] := by decide +kernel
/-- The chapter's example of bits. -/
theorem parse_bits (A : Option Addr) (w : World) (hr : Row .u8 w w.heap.size A 3 [1, 1, 5]) :
    Calls Try.prog 45 #[.slice A 3 3, .int .i64 3] w fun e w' => ∃ BA bc WA wc OA oc, e = .returned (.tuple #[.agg #[.int .i64 1, .int .i64 0, .slice BA 3 bc, .slice WA 0 wc, .int .i64 0, .int .i64 0, .int .u16 0, .int .u16 0, .int .u16 0, .int .i64 0, .int .i64 0, .bool false, .int .i64 0, .slice OA 0 oc], .int .i64 0]) ∧ w'.ownsRow (w.heap.size + 1) 4 1 (.slice BA 3 bc) 3 ([true, false, true].map Value.bool) ∧ Below w.heap.size w w' := by
  refine (pp_ok A 3 3 3 w 1 0 3 0 0 0 0 0 0 0 0 false 0 0 true (fun base X BA bc _ _ _ _ => X.ownsRow base 4 1 (.slice BA 3 bc) 3 ([true, false, true].map Value.bool)) ?_ (fun _ _ _ _ _ _ _ _ _ h hb => own_keep h hb) (fun _ _ p u _ _ _ _ _ _ h hp => own_far h p hp u) (fun _ X _ _ _ _ OA oc _ => fits_nil X OA oc) wide0 (by decide))
  intro W hW
  refine (pfT_yes_1 A 1 3 [1, 1, 5] 3 W ((hr.below hW).more hW.size) (by intro x hx; simp at hx; omega) (by omega) rfl (by omega) (by omega) rfl 3 rfl rfl).mono ?_
  rintro e w' ⟨G, g, rfl, ho, hb⟩
  rw [bits5] at ho
  exact ⟨G, g, none, 0, none, 0, rfl, ho, hb⟩

theorem exc_str : strOfNums [131, 2] = ⟨#[131, 2]⟩ := by decide +kernel

set_option maxRecDepth 100000 in
set_option maxHeartbeats 1000000 in
theorem awake_any (w : World) : Calls Try.prog 34 #[] w fun e w' => e = .returned (.bool true) ∧ Below w.heap.size w w' := by
  go_enter Try.func34, Try.ntmps34
  go_wp2_with (first
    | (go_at_call 49; refine (pfail_any 3 2 _).mono ?_; rintro e w0 ⟨rfl, hb0⟩; have HB0 := Lib.hid hb0; clear hb0)
    | (go_at_call 38
       refine (pbT_exc 3 2 0 0 0 0 0 0 0 0 0 false 0 0 none none none 0 0 0 _ true wide0 (by omega) (by decide)).mono ?_
       rintro e w1 ⟨g1, rfl, hg1, hgs, hb1⟩
       have HB1 := Lib.hid hb1
       have HG1 := Lib.hid hg1
       clear hb1 hg1))
  refine (parse_bits _ _ (by
    have h := heap_alloc_new w1 (.cells #[.int .u8 1, .int .u8 1, .int .u8 5] 5)
    have h2 : Whole .u8 (w1.alloc (.cells #[.int .u8 1, .int .u8 1, .int .u8 5] 5)) w1.heap.size 5 [1, 1, 5] := h
    exact h2.row)).mono ?_
  rintro e w2 ⟨BA, bc, WA, wc, OA, oc, rfl, ho, hb2⟩
  obtain ⟨g2, c2, hv2, hg2, hr2⟩ := row_of_own ho (by omega)
  injection hv2 with hv3 hv4 hv5
  subst hv3 hv5
  obtain ⟨ad, had, hlt, hcells⟩ := hr2.src (by omega)
  injection had with had
  subst had
  have hk0 := hcells 0 (.bool true) rfl
  have hk1 := hcells 1 (.bool false) rfl
  have hk2 := hcells 2 (.bool true) rfl
  rw [add_none] at hk0 hk1 hk2
  have hlt2 : g2 < w2.heap.size := hlt
  have hb3 : Below w1.heap.size w1 (w2.alloc (.cells #[.int .i64 1, .int .i64 0, .slice (some ⟨g2, 0, none⟩) 3 bc, .slice WA 0 wc, .int .i64 0, .int .i64 0, .int .u16 0, .int .u16 0, .int .u16 0, .int .i64 0, .int .i64 0, .bool false, .int .i64 0, .slice OA 0 oc] 64)) := (((Below.refl _ _).alloc (Nat.le_refl _) _).trans (hb2.mono (by simp))).alloc (by have := hb2.size; simp at this; omega) _
  have hc := conv_row _ 2 2 [131, 2] _ ((HG1.out.row.below hb3).more hb3.size)
  rw [exc_str] at hc
  have HB3 := Lib.hid (HB0.out.trans ((HB1.out.trans (hb3.mono HB1.out.size)).mono HB0.out.size))
  clear hb3 hb2 ho hr2 hg2 hlt hcells
  go_wp2_with fail
  go_ret
  exact ⟨rfl, HB3.out⟩

end Go.Proofs.Ytijfeffjjcbijaa

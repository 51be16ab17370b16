/- Package head (Get and the small functions), and the document's header. -/
import Derived.Test.YtielfekkonflfaaFrame
import Derived.Laws.BitsAllLaws
namespace Go.Proofs.Ytielfekkonflfaa
open Go.ChangeShapes Go.WideShapes Go.ChangeAt Go.RowKit
set_option linter.unusedVariables false

theorem place_yes (t : Int) (w : World) (h1 : 0 ≤ t) (h2 : t ≤ 65535) :
    Calls Try.prog 68 #[.int .i64 t] w fun e w' => e = .returned (.bool true) ∧ w = w' := by
  go_enter Try.func68, Try.ntmps68
  go_wp2
  go_ret
  exact ⟨rfl, rfl⟩
theorem place_no (t : Int) (w : World) (h : t < 0 ∨ 65535 < t) :
    Calls Try.prog 68 #[.int .i64 t] w fun e w' => e = .returned (.bool false) ∧ w = w' := by
  by_cases h1 : 0 ≤ t
  · have h2 : 65535 < t := by omega
    have hd : decide (t ≤ 65535) = false := by simpa using h2
    clear h
    go_enter Try.func68, Try.ntmps68
    go_wp2
    go_ret
    exact ⟨rfl, rfl⟩
  · have hd : decide (0 ≤ t) = false := by simpa using h1
    have h2 : t < 0 := by omega
    clear h
    go_enter Try.func68, Try.ntmps68
    go_wp2
    go_ret
    exact ⟨rfl, rfl⟩
theorem byteful_yes (t : Int) (w : World) (h1 : 0 ≤ t) (h2 : t ≤ 255) :
    Calls Try.prog 66 #[.int .i64 t] w fun e w' => e = .returned (.bool true) ∧ w = w' := by
  go_enter Try.func66, Try.ntmps66
  go_wp2
  go_ret
  exact ⟨rfl, rfl⟩
theorem byteful_no (t : Int) (w : World) (h : t < 0 ∨ 255 < t) :
    Calls Try.prog 66 #[.int .i64 t] w fun e w' => e = .returned (.bool false) ∧ w = w' := by
  by_cases h1 : 0 ≤ t
  · have h2 : 255 < t := by omega
    have hd : decide (t ≤ 255) = false := by simpa using h2
    clear h
    go_enter Try.func66, Try.ntmps66
    go_wp2
    go_ret
    exact ⟨rfl, rfl⟩
  · have hd : decide (0 ≤ t) = false := by simpa using h1
    have h2 : t < 0 := by omega
    clear h
    go_enter Try.func66, Try.ntmps66
    go_wp2
    go_ret
    exact ⟨rfl, rfl⟩

theorem wordAt_bounds {zs : List Int} (hx : Bytes8 zs) (k : Nat) : 0 ≤ wordAt zs k ∧ wordAt zs k ≤ 65535 := by
  have b1 := hx.at_ k
  have b2 := hx.at_ (k + 1)
  unfold wordAt
  simp only [List.getD] at *
  omega

theorem refword (A : Option Addr) (n c : Nat) (zs : List Int) (k : Nat) (w : World) (hr : Row .u8 w w.heap.size A n zs) (hx : Bytes8 zs) (hk : k + 1 < n) (hn : n ≤ 100000) :
    Calls Try.prog 63 #[.slice A n c, .int .i64 k] w (Quiet (.int .i64 (wordAt zs k)) w) := by
  obtain ⟨b1, b2⟩ := wordAt_bounds hx k
  have HR := Lib.hid hr
  have HX := Lib.hid hx
  clear hr hx
  go_enter Try.func63, Try.ntmps63
  go_wp2_with (go_at_call 81; refine (refget_yes A n c zs k _ HR.out HX.out hk hn).mono ?_; rintro e w' ⟨rfl, d, rfl⟩)
  go_ret
  exact ⟨rfl, d, rfl⟩

end Go.Proofs.Ytielfekkonflfaa

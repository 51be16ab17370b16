/- Package head (Get and the small functions), and the document's header. -/
import Derived.Test.YthmendcdfhlkkaaFrame
import Derived.Laws.BitsAllLaws
namespace Go.Proofs.Ythmendcdfhlkkaa
open Go.ChangeShapes Go.WideShapes Go.ChangeAt Go.RowKit
set_option linter.unusedVariables false

theorem allowed_yes (l : Int) (w : World) (h1 : 2 ≤ l) (h2 : l ≤ 254) :
    Calls Try.prog 131 #[.int .i64 l] w fun e w' => e = .returned (.bool true) ∧ w = w' := by
  go_enter Try.func131, Try.ntmps131
  go_wp2
  go_ret
  exact ⟨rfl, rfl⟩
theorem allowed_no (l : Int) (w : World) (h : l < 2 ∨ 254 < l) :
    Calls Try.prog 131 #[.int .i64 l] w fun e w' => e = .returned (.bool false) ∧ w = w' := by
  by_cases h1 : 2 ≤ l
  · have h2 : 254 < l := by omega
    have hd : decide (l ≤ 254) = false := by simpa using h2
    clear h
    go_enter Try.func131, Try.ntmps131
    go_wp2
    go_ret
    exact ⟨rfl, rfl⟩
  · have hd : decide (2 ≤ l) = false := by simpa using h1
    have h2 : l < 2 := by omega
    clear h
    go_enter Try.func131, Try.ntmps131
    go_wp2
    go_ret
    exact ⟨rfl, rfl⟩

theorem place_yes (t : Int) (w : World) (h1 : 0 ≤ t) (h2 : t ≤ 65535) :
    Calls Try.prog 98 #[.int .i64 t] w fun e w' => e = .returned (.bool true) ∧ w = w' := by
  go_enter Try.func98, Try.ntmps98
  go_wp2
  go_ret
  exact ⟨rfl, rfl⟩
theorem place_no (t : Int) (w : World) (h : t < 0 ∨ 65535 < t) :
    Calls Try.prog 98 #[.int .i64 t] w fun e w' => e = .returned (.bool false) ∧ w = w' := by
  by_cases h1 : 0 ≤ t
  · have h2 : 65535 < t := by omega
    have hd : decide (t ≤ 65535) = false := by simpa using h2
    clear h
    go_enter Try.func98, Try.ntmps98
    go_wp2
    go_ret
    exact ⟨rfl, rfl⟩
  · have hd : decide (0 ≤ t) = false := by simpa using h1
    have h2 : t < 0 := by omega
    clear h
    go_enter Try.func98, Try.ntmps98
    go_wp2
    go_ret
    exact ⟨rfl, rfl⟩
theorem byteful_yes (t : Int) (w : World) (h1 : 0 ≤ t) (h2 : t ≤ 255) :
    Calls Try.prog 96 #[.int .i64 t] w fun e w' => e = .returned (.bool true) ∧ w = w' := by
  go_enter Try.func96, Try.ntmps96
  go_wp2
  go_ret
  exact ⟨rfl, rfl⟩
theorem byteful_no (t : Int) (w : World) (h : t < 0 ∨ 255 < t) :
    Calls Try.prog 96 #[.int .i64 t] w fun e w' => e = .returned (.bool false) ∧ w = w' := by
  by_cases h1 : 0 ≤ t
  · have h2 : 255 < t := by omega
    have hd : decide (t ≤ 255) = false := by simpa using h2
    clear h
    go_enter Try.func96, Try.ntmps96
    go_wp2
    go_ret
    exact ⟨rfl, rfl⟩
  · have hd : decide (0 ≤ t) = false := by simpa using h1
    have h2 : t < 0 := by omega
    clear h
    go_enter Try.func96, Try.ntmps96
    go_wp2
    go_ret
    exact ⟨rfl, rfl⟩

theorem wordAt_bounds {zs : List Int} (hx : Bytes8 zs) (k : Nat) : 0 ≤ wordAt zs k ∧ wordAt zs k ≤ 65535 := by
  have b1 := hx.at_ k
  have b2 := hx.at_ (k + 1)
  unfold wordAt
  simp only [List.getD] at *
  omega

theorem refword (A : Option Addr) (n c : Nat) (zs : List Int) (k : Nat) (w : World) (hr : Row .u8 w w.heap.size A n zs) (hx : Bytes8 zs) (hk : k + 1 < n) (hn : n ≤ 100000) :
    Calls Try.prog 93 #[.slice A n c, .int .i64 k] w (Quiet (.int .i64 (wordAt zs k)) w) := by
  obtain ⟨b1, b2⟩ := wordAt_bounds hx k
  have HR := Lib.hid hr
  have HX := Lib.hid hx
  clear hr hx
  go_enter Try.func93, Try.ntmps93
  go_wp2_with (go_at_call 126; refine (refget_yes A n c zs k _ HR.out HX.out hk hn).mono ?_; rintro e w' ⟨rfl, d, rfl⟩)
  go_ret
  exact ⟨rfl, d, rfl⟩

theorem reftwo (A : Option Addr) (n c : Nat) (zs : List Int) (v : Int) (w : World) (hr : Row .u8 w w.heap.size A n zs) (hv0 : 0 ≤ v) (hv1 : v ≤ 65535) (hn : n ≤ 100000) :
    Calls Try.prog 80 #[.slice A n c, .int .i64 v] w fun e w' => ∃ g cap, e = .returned (.slice (some ⟨g, 0, none⟩) (n + 2) cap) ∧ w'.ownsRow w.heap.size 5 1 (.slice (some ⟨g, 0, none⟩) (n + 2) cap) (n + 2) ((zs ++ [v / 256, v % 256]).map (Value.int .u8)) ∧ Below w.heap.size w w' := by
  have HR := Lib.hid hr
  have e1 : IntKind.u16.wrap v = v := IntWalk.u16_in _ (by omega)
  clear hr
  go_enter Try.func80, Try.ntmps80
  go_wp2_with (go_at_call 120; refine (refput_own A n c zs v _ HR.out hv0 hv1 hn).mono ?_; rintro e w' ⟨g, cap, rfl, h1, h2⟩)
  go_ret
  exact ⟨g, cap, rfl, h1, h2⟩

end Go.Proofs.Ythmendcdfhlkkaa

/- Package head (Get and the small functions), and the document's header. -/
import Derived.Test.YtoljpdamalcjeaaFrame
import Derived.Laws.BitsAllLaws
namespace Go.Proofs.Ytoljpdamalcjeaa
open Go.ChangeShapes Go.WideShapes Go.ChangeAt Go.RowKit
set_option linter.unusedVariables false

theorem narrow_any (t l u : Int) (w : World) :
    Calls Try.prog 97 #[.agg #[.int .i64 t, .int .i64 l, .int .i64 u]] w fun e w' => e = .returned (.agg #[.int .i64 (t % 65536), .int .i64 (l % 65536), .int .i64 (u % 256)]) ∧ Below w.heap.size w w' := by
  have e1 : IntKind.u16.wrap t = t % 65536 := IntKind.wrap_u16 t
  have e2 : IntKind.u16.wrap l = l % 65536 := IntKind.wrap_u16 l
  have b1 : 0 ≤ t % 65536 := by omega
  have b2 : t % 65536 < 65536 := by omega
  have b3 : 0 ≤ l % 65536 := by omega
  have b4 : l % 65536 < 65536 := by omega
  go_enter Try.func97, Try.ntmps97
  go_wp2
  exact bodyPost_ret (v := .agg #[.int .i64 (t % 65536), .int .i64 (l % 65536), .int .i64 (u % 256)]) (by simp [results, Try.results97, go_sem]) rfl ⟨rfl, ((Below.refl _ _).alloc (Nat.le_refl _) _).alloc (by simp) _⟩

theorem allowed_yes (l : Int) (w : World) (h1 : 2 ≤ l) (h2 : l ≤ 254) :
    Calls Try.prog 98 #[.int .i64 l] w fun e w' => e = .returned (.bool true) ∧ w = w' := by
  go_enter Try.func98, Try.ntmps98
  go_wp2
  go_ret
  exact ⟨rfl, rfl⟩
theorem allowed_no (l : Int) (w : World) (h : l < 2 ∨ 254 < l) :
    Calls Try.prog 98 #[.int .i64 l] w fun e w' => e = .returned (.bool false) ∧ w = w' := by
  by_cases h1 : 2 ≤ l
  · have h2 : 254 < l := by omega
    have hd : decide (l ≤ 254) = false := by simpa using h2
    clear h
    go_enter Try.func98, Try.ntmps98
    go_wp2
    go_ret
    exact ⟨rfl, rfl⟩
  · have hd : decide (2 ≤ l) = false := by simpa using h1
    have h2 : l < 2 := by omega
    clear h
    go_enter Try.func98, Try.ntmps98
    go_wp2
    go_ret
    exact ⟨rfl, rfl⟩

theorem place_yes (t : Int) (w : World) (h1 : 0 ≤ t) (h2 : t ≤ 65535) :
    Calls Try.prog 74 #[.int .i64 t] w fun e w' => e = .returned (.bool true) ∧ w = w' := by
  go_enter Try.func74, Try.ntmps74
  go_wp2
  go_ret
  exact ⟨rfl, rfl⟩
theorem place_no (t : Int) (w : World) (h : t < 0 ∨ 65535 < t) :
    Calls Try.prog 74 #[.int .i64 t] w fun e w' => e = .returned (.bool false) ∧ w = w' := by
  by_cases h1 : 0 ≤ t
  · have h2 : 65535 < t := by omega
    have hd : decide (t ≤ 65535) = false := by simpa using h2
    clear h
    go_enter Try.func74, Try.ntmps74
    go_wp2
    go_ret
    exact ⟨rfl, rfl⟩
  · have hd : decide (0 ≤ t) = false := by simpa using h1
    have h2 : t < 0 := by omega
    clear h
    go_enter Try.func74, Try.ntmps74
    go_wp2
    go_ret
    exact ⟨rfl, rfl⟩
theorem byteful_yes (t : Int) (w : World) (h1 : 0 ≤ t) (h2 : t ≤ 255) :
    Calls Try.prog 72 #[.int .i64 t] w fun e w' => e = .returned (.bool true) ∧ w = w' := by
  go_enter Try.func72, Try.ntmps72
  go_wp2
  go_ret
  exact ⟨rfl, rfl⟩
theorem byteful_no (t : Int) (w : World) (h : t < 0 ∨ 255 < t) :
    Calls Try.prog 72 #[.int .i64 t] w fun e w' => e = .returned (.bool false) ∧ w = w' := by
  by_cases h1 : 0 ≤ t
  · have h2 : 255 < t := by omega
    have hd : decide (t ≤ 255) = false := by simpa using h2
    clear h
    go_enter Try.func72, Try.ntmps72
    go_wp2
    go_ret
    exact ⟨rfl, rfl⟩
  · have hd : decide (0 ≤ t) = false := by simpa using h1
    have h2 : t < 0 := by omega
    clear h
    go_enter Try.func72, Try.ntmps72
    go_wp2
    go_ret
    exact ⟨rfl, rfl⟩

theorem wordAt_bounds {zs : List Int} (hx : Bytes8 zs) (k : Nat) : 0 ≤ wordAt zs k ∧ wordAt zs k ≤ 65535 := by
  have b1 := hx.at_ k
  have b2 := hx.at_ (k + 1)
  unfold wordAt
  simp only [List.getD] at *
  omega

theorem refword (A : Option Addr) (n c : Nat) (zs : List Int) (k : Nat) (w : World) (hr : Row .u8 w w.heap.size A n zs) (hx : Bytes8 zs) (hk : k + 1 < n) (hn : n ≤ 100000) :
    Calls Try.prog 101 #[.slice A n c, .int .i64 k] w (Quiet (.int .i64 (wordAt zs k)) w) := by
  obtain ⟨b1, b2⟩ := wordAt_bounds hx k
  have HR := Lib.hid hr
  have HX := Lib.hid hx
  clear hr hx
  go_enter Try.func101, Try.ntmps101
  go_wp2_with (go_at_call 127; refine (refget_yes A n c zs k _ HR.out HX.out hk hn).mono ?_; rintro e w' ⟨rfl, d, rfl⟩)
  go_ret
  exact ⟨rfl, d, rfl⟩

theorem reftwo (A : Option Addr) (n c : Nat) (zs : List Int) (v : Int) (w : World) (hr : Row .u8 w w.heap.size A n zs) (hv0 : 0 ≤ v) (hv1 : v ≤ 65535) (hn : n ≤ 100000) :
    Calls Try.prog 51 #[.slice A n c, .int .i64 v] w fun e w' => ∃ g cap, e = .returned (.slice (some ⟨g, 0, none⟩) (n + 2) cap) ∧ w'.ownsRow w.heap.size 5 1 (.slice (some ⟨g, 0, none⟩) (n + 2) cap) (n + 2) ((zs ++ [v / 256, v % 256]).map (Value.int .u8)) ∧ Below w.heap.size w w' := by
  have HR := Lib.hid hr
  have e1 : IntKind.u16.wrap v = v := IntWalk.u16_in _ (by omega)
  clear hr
  go_enter Try.func51, Try.ntmps51
  go_wp2_with (go_at_call 104; refine (refput_own A n c zs v _ HR.out hv0 hv1 hn).mono ?_; rintro e w' ⟨g, cap, rfl, h1, h2⟩)
  go_ret
  exact ⟨g, cap, rfl, h1, h2⟩

end Go.Proofs.Ytoljpdamalcjeaa

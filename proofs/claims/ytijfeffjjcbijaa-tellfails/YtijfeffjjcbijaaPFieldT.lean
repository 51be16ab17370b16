/- Package tell: size; fields and Parse of exceptions. -/
import Derived.Test.YtijfeffjjcbijaaTail
import Derived.Test.YtijfeffjjcbijaaPTellX
namespace Go.Proofs.Ytijfeffjjcbijaa
open Go.ChangeShapes Go.WideShapes Go.ChangeAt Go.RowKit
set_option linter.unusedVariables false
set_option linter.unusedSimpArgs false

section
variable (A : Option Addr) (n c : Nat) (zs : List Int) (w : World)

theorem psz_list (f q : Int) (hr : Row .u8 w w.heap.size A n zs) (hx : Bytes8 zs) (hn : n ≤ 1000) (h1 : 2 ≤ n) (h0 : zs.getD 0 0 = f) (hf : f = 1 ∨ f = 2 ∨ f = 3 ∨ f = 4 ∨ f = 23) (hq : zs.getD 1 0 = q) :
    Calls Try.prog 119 #[.slice A n c] w fun e w' => e = .returned (.int .i64 (2 + q)) ∧ w = w' := by
  obtain ⟨b, off, rfl, hb, hcell⟩ := hr.2 (by omega)
  have hc0 : w.cell? ⟨b, off, none⟩ = some (.int .u8 f) := by
    have := hcell 0 (by omega)
    rwa [Nat.add_zero, h0] at this
  have hc1 := hcell 1 (by omega)
  rw [hq] at hc1
  have hbq := hx.at_ 1
  change 0 ≤ zs.getD 1 0 ∧ zs.getD 1 0 ≤ 255 at hbq
  rw [hq] at hbq
  have q0 := hbq.1
  have q1 := hbq.2
  have hn0 : (0 : Int) < (n : Int) := by omega
  have hn1 : (1 : Int) < (n : Int) := by omega
  clear hr hx hcell h0 hq hbq
  rcases hf with rfl | rfl | rfl | rfl | rfl
  all_goals
    go_enter Try.func119, Try.ntmps119
    go_wp2
    go_ret
    exact ⟨ret_int (by omega), rfl⟩
theorem psz_pair (f : Int) (hr : Row .u8 w w.heap.size A n zs) (hn : n ≤ 1000) (h1 : 2 ≤ n) (h0 : zs.getD 0 0 = f) (hf : f = 5 ∨ f = 6 ∨ f = 15 ∨ f = 16) :
    Calls Try.prog 119 #[.slice A n c] w fun e w' => e = .returned (.int .i64 5) ∧ w = w' := by
  obtain ⟨b, off, rfl, hb, hcell⟩ := hr.2 (by omega)
  have hc0 : w.cell? ⟨b, off, none⟩ = some (.int .u8 f) := by
    have := hcell 0 (by omega)
    rwa [Nat.add_zero, h0] at this
  have hn0 : (0 : Int) < (n : Int) := by omega
  clear hr hcell h0
  rcases hf with rfl | rfl | rfl | rfl
  all_goals
    go_enter Try.func119, Try.ntmps119
    go_wp2
    go_ret
    exact ⟨rfl, rfl⟩
theorem psz_22 (hr : Row .u8 w w.heap.size A n zs) (hn : n ≤ 1000) (h1 : 2 ≤ n) (h0 : zs.getD 0 0 = 22) :
    Calls Try.prog 119 #[.slice A n c] w fun e w' => e = .returned (.int .i64 7) ∧ w = w' := by
  obtain ⟨b, off, rfl, hb, hcell⟩ := hr.2 (by omega)
  have hc0 : w.cell? ⟨b, off, none⟩ = some (.int .u8 22) := by
    have := hcell 0 (by omega)
    rwa [Nat.add_zero, h0] at this
  have hn0 : (0 : Int) < (n : Int) := by omega
  clear hr hcell h0
  go_enter Try.func119, Try.ntmps119
  go_wp2
  go_ret
  exact ⟨rfl, rfl⟩
theorem psz_43 (hr : Row .u8 w w.heap.size A n zs) (hn : n ≤ 1000) (h1 : 2 ≤ n) (h0 : zs.getD 0 0 = 43) :
    Calls Try.prog 119 #[.slice A n c] w fun e w' => e = .returned (.int .i64 (n : Int)) ∧ w = w' := by
  obtain ⟨b, off, rfl, hb, hcell⟩ := hr.2 (by omega)
  have hc0 : w.cell? ⟨b, off, none⟩ = some (.int .u8 43) := by
    have := hcell 0 (by omega)
    rwa [Nat.add_zero, h0] at this
  have hn0 : (0 : Int) < (n : Int) := by omega
  clear hr hcell h0
  go_enter Try.func119, Try.ntmps119
  go_wp2
  go_ret
  exact ⟨rfl, rfl⟩
theorem psz_no (f : Int) (hr : Row .u8 w w.heap.size A n zs) (hx : Bytes8 zs) (hn : n ≤ 1000) (h1 : 2 ≤ n) (h0 : zs.getD 0 0 = f) (hf : NoFn f) :
    Calls Try.prog 119 #[.slice A n c] w fun e w' => e = .returned (.int .i64 2) ∧ w = w' := by
  obtain ⟨b, off, rfl, hb, hcell⟩ := hr.2 (by omega)
  have hc0 : w.cell? ⟨b, off, none⟩ = some (.int .u8 f) := by
    have := hcell 0 (by omega)
    rwa [Nat.add_zero, h0] at this
  have hbq := hx.at_ 0
  change 0 ≤ zs.getD 0 0 ∧ zs.getD 0 0 ≤ 255 at hbq
  rw [h0] at hbq
  have q0 := hbq.1
  have q1 := hbq.2
  have hn0 : (0 : Int) < (n : Int) := by omega
  obtain ⟨g1, g2, g3, g4, g5, g6, g15, g16, g22, g23, g43⟩ := hf
  clear hr hcell h0 hbq hx
  go_enter Try.func119, Try.ntmps119
  go_wp2
  go_ret
  exact ⟨rfl, rfl⟩
end

end Go.Proofs.Ytijfeffjjcbijaa

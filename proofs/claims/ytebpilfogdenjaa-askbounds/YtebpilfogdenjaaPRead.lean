/- Package ask: number, size, unpacked, refusal. -/
import Derived.Test.YtebpilfogdenjaaPSmall
import Derived.Test.YtebpilfogdenjaaAskList
import Derived.Test.YtebpilfogdenjaaBitsMore
namespace Go.Proofs.Ytebpilfogdenjaa
open Go.ChangeShapes Go.WideShapes Go.ChangeAt Go.RowKit
set_option linter.unusedVariables false
set_option linter.unusedSimpArgs false

theorem pnumber_any (A : Option Addr) (n c : Nat) (zs : List Int) (a g : Int) (w : World) (hg : gotW zs n a = g) (hr : Row .u8 w w.heap.size A n zs) (hx : Bytes8 zs) (hn : n ≤ 100000) :
    Calls Try.prog 44 #[.slice A n c, .int .i64 a] w (Quiet (.int .i64 g) w) := by
  obtain ⟨b1, b2⟩ := gotW_bounds hx n a
  rw [hg] at b1 b2
  have HR := Lib.hid hr
  have HX := Lib.hid hx
  have HG := Lib.hid hg
  clear hr hx hg
  go_enter Try.func44, Try.ntmps44
  go_wp2_with (go_at_call 59; refine (wget_any A n c zs a _ HR.out HX.out hn).mono ?_; rintro e w' ⟨rfl, d, rfl⟩; rw [HG.out])
  go_ret
  exact ⟨rfl, d, rfl⟩

section
variable (A : Option Addr) (n c : Nat) (zs : List Int) (w : World)

theorem psize_5 (f : Int) (hr : Row .u8 w w.heap.size A n zs) (hn : n ≤ 1000) (h1 : 1 ≤ n) (h0 : zs.getD 0 0 = f) (hf : f = 1 ∨ f = 2 ∨ f = 3 ∨ f = 4 ∨ f = 5 ∨ f = 6) :
    Calls Try.prog 42 #[.slice A n c] w fun e w' => e = .returned (.int .i64 5) ∧ w = w' := by
  obtain ⟨b, off, rfl, hb, hcell⟩ := hr.2 (by omega)
  have hc0 : w.cell? ⟨b, off, none⟩ = some (.int .u8 f) := by
    have := hcell 0 (by omega)
    rwa [Nat.add_zero, h0] at this
  have hn0 : (0 : Int) < (n : Int) := by omega
  clear hr hcell h0
  rcases hf with rfl | rfl | rfl | rfl | rfl | rfl
  all_goals
    go_enter Try.func42, Try.ntmps42
    go_wp2_with (go_at_call 43; refine (pair_other _ _ (by omega)).mono ?_; rintro e w' ⟨rfl, rfl⟩)
    go_ret
    exact ⟨rfl, rfl⟩
theorem psize_22 (hr : Row .u8 w w.heap.size A n zs) (hn : n ≤ 1000) (h1 : 1 ≤ n) (h0 : zs.getD 0 0 = 22) :
    Calls Try.prog 42 #[.slice A n c] w fun e w' => e = .returned (.int .i64 7) ∧ w = w' := by
  obtain ⟨b, off, rfl, hb, hcell⟩ := hr.2 (by omega)
  have hc0 : w.cell? ⟨b, off, none⟩ = some (.int .u8 22) := by
    have := hcell 0 (by omega)
    rwa [Nat.add_zero, h0] at this
  have hn0 : (0 : Int) < (n : Int) := by omega
  clear hr hcell h0
  go_enter Try.func42, Try.ntmps42
  go_wp2_with (go_at_call 43; refine (pair_other _ _ (by omega)).mono ?_; rintro e w' ⟨rfl, rfl⟩)
  go_ret
  exact ⟨rfl, rfl⟩
theorem psize_43 (hr : Row .u8 w w.heap.size A n zs) (hn : n ≤ 1000) (h1 : 1 ≤ n) (h0 : zs.getD 0 0 = 43) :
    Calls Try.prog 42 #[.slice A n c] w fun e w' => e = .returned (.int .i64 4) ∧ w = w' := by
  obtain ⟨b, off, rfl, hb, hcell⟩ := hr.2 (by omega)
  have hc0 : w.cell? ⟨b, off, none⟩ = some (.int .u8 43) := by
    have := hcell 0 (by omega)
    rwa [Nat.add_zero, h0] at this
  have hn0 : (0 : Int) < (n : Int) := by omega
  clear hr hcell h0
  go_enter Try.func42, Try.ntmps42
  go_wp2_with (go_at_call 43; refine (pair_other _ _ (by omega)).mono ?_; rintro e w' ⟨rfl, rfl⟩)
  go_ret
  exact ⟨rfl, rfl⟩
/-- Of 15, 16 and 23: the byte that tells the length stands at p. -/
theorem psize_few (f : Int) (p : Nat) (hr : Row .u8 w w.heap.size A n zs) (hn : n ≤ 1000) (h1 : 1 ≤ n) (h0 : zs.getD 0 0 = f) (hf : (f = 15 ∧ p = 5) ∨ (f = 16 ∧ p = 5) ∨ (f = 23 ∧ p = 9)) (hp : n ≤ p) :
    Calls Try.prog 42 #[.slice A n c] w fun e w' => e = .returned (.int .i64 0) ∧ w = w' := by
  obtain ⟨b, off, rfl, hb, hcell⟩ := hr.2 (by omega)
  have hc0 : w.cell? ⟨b, off, none⟩ = some (.int .u8 f) := by
    have := hcell 0 (by omega)
    rwa [Nat.add_zero, h0] at this
  have hn0 : (0 : Int) < (n : Int) := by omega
  clear hr hcell h0
  rcases hf with ⟨rfl, rfl⟩ | ⟨rfl, rfl⟩ | ⟨rfl, rfl⟩
  all_goals
    have hq : (n : Int) ≤ 5 ∨ (n : Int) ≤ 9 := by omega
    clear hq
    first
      | have hq : (n : Int) ≤ 5 := by omega
      | have hq : (n : Int) ≤ 9 := by omega
    go_enter Try.func42, Try.ntmps42
    go_wp2_with (first
      | (go_at_call 43; refine (pair_other _ _ (by omega)).mono ?_; rintro e w' ⟨rfl, rfl⟩)
      | (go_at_call 43; refine (pair_23 _).mono ?_; rintro e w' ⟨rfl, rfl⟩))
    go_ret
    exact ⟨rfl, rfl⟩
theorem psize_many (f : Int) (p : Nat) (q : Int) (hr : Row .u8 w w.heap.size A n zs) (hx : Bytes8 zs) (hn : n ≤ 1000) (h1 : 1 ≤ n) (h0 : zs.getD 0 0 = f) (hf : (f = 15 ∧ p = 5) ∨ (f = 16 ∧ p = 5) ∨ (f = 23 ∧ p = 9)) (hp : p < n) (hq : zs.getD p 0 = q) :
    Calls Try.prog 42 #[.slice A n c] w fun e w' => e = .returned (.int .i64 (p + 1 + q)) ∧ w = w' := by
  obtain ⟨b, off, rfl, hb, hcell⟩ := hr.2 (by omega)
  have hc0 : w.cell? ⟨b, off, none⟩ = some (.int .u8 f) := by
    have := hcell 0 (by omega)
    rwa [Nat.add_zero, h0] at this
  have hcp := hcell p hp
  rw [hq] at hcp
  have hbq := hx.at_ p
  change 0 ≤ zs.getD p 0 ∧ zs.getD p 0 ≤ 255 at hbq
  rw [hq] at hbq
  have q0 := hbq.1
  have q1 := hbq.2
  have hn0 : (0 : Int) < (n : Int) := by omega
  clear hr hx hcell h0 hq hbq
  rcases hf with ⟨rfl, rfl⟩ | ⟨rfl, rfl⟩ | ⟨rfl, rfl⟩
  all_goals
    first
      | have hl : (5 : Int) < (n : Int) := by omega
      | have hl : (9 : Int) < (n : Int) := by omega
    go_enter Try.func42, Try.ntmps42
    go_wp2_with (first
      | (go_at_call 43; refine (pair_other _ _ (by omega)).mono ?_; rintro e w' ⟨rfl, rfl⟩)
      | (go_at_call 43; refine (pair_23 _).mono ?_; rintro e w' ⟨rfl, rfl⟩))
    go_ret
    exact ⟨ret_int (by omega), rfl⟩

end

end Go.Proofs.Ytebpilfogdenjaa

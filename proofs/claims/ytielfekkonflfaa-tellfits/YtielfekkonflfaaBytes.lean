/- Contracts of LentBytes, StaysBytes, Get and the document's Get. -/
import Derived.Test.YtielfekkonflfaaSmall
import Derived.Test.YtielfekkonflfaaLentBytes
namespace Go.Proofs.Ytielfekkonflfaa
open Go.RowKit
set_option linter.unusedVariables false

/-- The word that stands at a place. -/
def wordAt (zs : List Int) (k : Nat) : Int := zs.getD k 0 * 256 + zs.getD (k + 1) 0

theorem wget_yes (A : Option Addr) (n c : Nat) (zs : List Int) (k : Nat) (w : World) (hr : Row .u8 w w.heap.size A n zs) (hx : Bytes8 zs) (hk : k + 1 < n) (hn : n ≤ 100000) :
    Calls Try.prog 76 #[.slice A n c, .int .i64 k] w fun e w' => e = .returned (.tuple #[.int .u16 (wordAt zs k), .bool true]) ∧ ∃ d, w' = w.drewN d := by
  obtain ⟨b, off, rfl, hb, hcell⟩ := hr.2 (by omega)
  have h1 := hcell k (by omega)
  have h2 := hcell (k + 1) (by omega)
  have b1 := hx.at_ k
  have b2 := hx.at_ (k + 1)
  have HN := Lib.hid (or16 _ _ b1.1 b1.2 b2.1 b2.2)
  have hi1 : (k : Int) < (n : Int) := by omega
  have hi2 : (k : Int) + 1 < (n : Int) := by omega
  clear hr hx hcell
  go_enter Try.func76, Try.ntmps76
  go_wp2
  go_quiet (fail)
  go_wp2
  go_ret2
  exact ⟨ret_int2 (HN.out), _, rfl⟩

theorem wget_no (A : Option Addr) (n c : Nat) (a : Int) (w : World) (h : a < 0 ∨ (n : Int) - 1 ≤ a) (hn : n ≤ 100000) :
    Calls Try.prog 76 #[.slice A n c, .int .i64 a] w fun e w' => e = .returned (.tuple #[.int .u16 0, .bool false]) ∧ w = w' := by
  rcases h with h | h
  · go_enter Try.func76, Try.ntmps76
    go_wp2
    go_ret2
    exact ⟨rfl, rfl⟩
  · by_cases h0 : a < 0
    · go_enter Try.func76, Try.ntmps76
      go_wp2
      go_ret2
      exact ⟨rfl, rfl⟩
    · have h0' : 0 ≤ a := by omega
      go_enter Try.func76, Try.ntmps76
      go_wp2
      go_ret2
      exact ⟨rfl, rfl⟩

theorem refget_yes (A : Option Addr) (n c : Nat) (zs : List Int) (k : Nat) (w : World) (hr : Row .u8 w w.heap.size A n zs) (hx : Bytes8 zs) (hk : k + 1 < n) (hn : n ≤ 100000) :
    Calls Try.prog 81 #[.slice A n c, .int .i64 k] w fun e w' => e = .returned (.tuple #[.int .u16 (wordAt zs k), .bool true]) ∧ ∃ d, w' = w.drewN d := by
  obtain ⟨b, off, rfl, hb, hcell⟩ := hr.2 (by omega)
  have h1 := hcell k (by omega)
  have h2 := hcell (k + 1) (by omega)
  have b1 := hx.at_ k
  have b2 := hx.at_ (k + 1)
  have HN := Lib.hid (or16 _ _ b1.1 b1.2 b2.1 b2.2)
  have hi1 : (k : Int) < (n : Int) := by omega
  have hi2 : (k : Int) + 1 < (n : Int) := by omega
  clear hr hx hcell
  go_enter Try.func81, Try.ntmps81
  go_wp2
  go_quiet (fail)
  go_wp2
  go_ret2
  exact ⟨ret_int2 (rfl), _, rfl⟩

theorem refget_no (A : Option Addr) (n c : Nat) (a : Int) (w : World) (h : a < 0 ∨ (n : Int) - 1 ≤ a) (hn : n ≤ 100000) :
    Calls Try.prog 81 #[.slice A n c, .int .i64 a] w fun e w' => e = .returned (.tuple #[.int .u16 0, .bool false]) ∧ w = w' := by
  rcases h with h | h
  · go_enter Try.func81, Try.ntmps81
    go_wp2
    go_ret2
    exact ⟨rfl, rfl⟩
  · by_cases h0 : a < 0
    · go_enter Try.func81, Try.ntmps81
      go_wp2
      go_ret2
      exact ⟨rfl, rfl⟩
    · have h0' : 0 ≤ a := by omega
      go_enter Try.func81, Try.ntmps81
      go_wp2
      go_ret2
      exact ⟨rfl, rfl⟩


end Go.Proofs.Ytielfekkonflfaa

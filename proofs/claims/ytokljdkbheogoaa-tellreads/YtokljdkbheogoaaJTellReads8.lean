/- Joined: Own2 PDev. -/
import Derived.Test.YtokljdkbheogoaaPObjs
import Derived.Test.YtokljdkbheogoaaPBox14
import Derived.Deep.RegionHeld3
namespace Go.Proofs.Ytokljdkbheogoaa
open Go.ChangeShapes Go.WideShapes Go.ChangeAt Go.RowKit
set_option linter.unusedVariables false
set_option linter.unusedSimpArgs false

theorem own2_low {w : World} {b : Nat} {e : TypeId} {v : Value} {n : Nat} {xs : List Value} (h : w.ownsRow b e 2 v n xs) (p : Addr) (hp : p.block < b) (u : Value) : (w.setCell p u).ownsRow b e 2 v n xs := by
  refine ⟨h.1, ?_⟩
  rcases h.2 with h0 | ⟨g, cap, cur, hv, hg, hh, rest⟩
  · exact .inl h0
  · exact .inr ⟨g, cap, cur, hv, hg, (Below.heap_setCell w p u g (by omega)).trans hh, rest⟩

set_option maxRecDepth 100000 in
set_option maxHeartbeats 600000 in
theorem pdev_few (A : Option Addr) (n c : Nat) (w : World) (hn : n < 7) :
    Calls Try.prog 74 #[.slice A n c] w fun e w' => e = .returned (.tuple #[.agg #[.int .i64 0, .int .i64 0, .slice none 0 0, .slice none 0 0, .int .i64 0, .int .i64 0, .int .u16 0, .int .u16 0, .int .u16 0, .int .i64 0, .int .i64 0, .bool false, .int .i64 0, .slice none 0 0], .bool false]) ∧ Below w.heap.size w w' := by
  have hl' : (n : Int) < 7 := by omega
  go_enter Try.func74, Try.ntmps74
  go_wp2
  exact bodyPost_ret (v := .tuple #[.agg #[.int .i64 0, .int .i64 0, .slice none 0 0, .slice none 0 0, .int .i64 0, .int .i64 0, .int .u16 0, .int .u16 0, .int .u16 0, .int .i64 0, .int .i64 0, .bool false, .int .i64 0, .slice none 0 0], .bool false]) (by simp [results, Try.results74, go_sem]) rfl ⟨rfl, (Below.refl _ _).alloc (Nat.le_refl _) _⟩

set_option maxRecDepth 100000 in
set_option maxHeartbeats 2000000 in
theorem pdev_no (A : Option Addr) (n c : Nat) (zs : List Int) (z1 z2 z3 z4 z5 z6 : Int) (w : World) (hr : Row .u8 w w.heap.size A n zs) (hx : Bytes8 zs) (hn : 7 ≤ n) (h1 : zs.getD 1 0 = z1) (h2 : zs.getD 2 0 = z2) (h3 : zs.getD 3 0 = z3) (h4 : zs.getD 4 0 = z4) (h5 : zs.getD 5 0 = z5) (h6 : zs.getD 6 0 = z6) (hno : z1 ≠ 14 ∨ (z4 ≠ 0 ∧ z4 ≠ 255)) :
    Calls Try.prog 74 #[.slice A n c] w fun e w' => e = .returned (.tuple #[.agg #[.int .i64 0, .int .i64 0, .slice none 0 0, .slice none 0 0, .int .i64 0, .int .i64 0, .int .u16 0, .int .u16 0, .int .u16 0, .int .i64 0, .int .i64 0, .bool false, .int .i64 0, .slice none 0 0], .bool false]) ∧ Below w.heap.size w w' := by
  obtain ⟨b, off, rfl, hb, hcell⟩ := hr.2 (by omega)
  have hl' : ¬ (n : Int) < 7 := by omega
  have hlt : ∀ k : Nat, k < 7 → (k : Int) < (n : Int) := by omega
  have n6 : (6 : Int) < (n : Int) := by omega
  have n6' : 6 < n := by omega
  have n5' : 5 < n := by omega
  have n4' : 4 < n := by omega
  have n3' : 3 < n := by omega
  have n2' : 2 < n := by omega
  have n1' : 1 < n := by omega
  have hc1' := hcell 1 (by omega)
  rw [h1] at hc1'
  have hc1 : (w.alloc (.cells #[.int .i64 0, .int .i64 0, .slice none 0 0, .slice none 0 0, .int .i64 0, .int .i64 0, .int .u16 0, .int .u16 0, .int .u16 0, .int .i64 0, .int .i64 0, .bool false, .int .i64 0, .slice none 0 0] 31)).cell? ⟨b, off + 1, none⟩ = some (.int .u8 z1) := by
    rw [World.cell?_alloc_lt w _ ⟨b, off + 1, none⟩ hb]
    exact hc1'
  have hb1 := hx.at_ 1
  change 0 ≤ zs.getD 1 0 ∧ zs.getD 1 0 ≤ 255 at hb1
  rw [h1] at hb1
  have l1 := hb1.1
  have u1 := hb1.2
  have hc2' := hcell 2 (by omega)
  rw [h2] at hc2'
  have hc2 : (w.alloc (.cells #[.int .i64 0, .int .i64 0, .slice none 0 0, .slice none 0 0, .int .i64 0, .int .i64 0, .int .u16 0, .int .u16 0, .int .u16 0, .int .i64 0, .int .i64 0, .bool false, .int .i64 0, .slice none 0 0] 31)).cell? ⟨b, off + 2, none⟩ = some (.int .u8 z2) := by
    rw [World.cell?_alloc_lt w _ ⟨b, off + 2, none⟩ hb]
    exact hc2'
  have hb2 := hx.at_ 2
  change 0 ≤ zs.getD 2 0 ∧ zs.getD 2 0 ≤ 255 at hb2
  rw [h2] at hb2
  have l2 := hb2.1
  have u2 := hb2.2
  have hc3' := hcell 3 (by omega)
  rw [h3] at hc3'
  have hc3 : (w.alloc (.cells #[.int .i64 0, .int .i64 0, .slice none 0 0, .slice none 0 0, .int .i64 0, .int .i64 0, .int .u16 0, .int .u16 0, .int .u16 0, .int .i64 0, .int .i64 0, .bool false, .int .i64 0, .slice none 0 0] 31)).cell? ⟨b, off + 3, none⟩ = some (.int .u8 z3) := by
    rw [World.cell?_alloc_lt w _ ⟨b, off + 3, none⟩ hb]
    exact hc3'
  have hb3 := hx.at_ 3
  change 0 ≤ zs.getD 3 0 ∧ zs.getD 3 0 ≤ 255 at hb3
  rw [h3] at hb3
  have l3 := hb3.1
  have u3 := hb3.2
  have hc4' := hcell 4 (by omega)
  rw [h4] at hc4'
  have hc4 : (w.alloc (.cells #[.int .i64 0, .int .i64 0, .slice none 0 0, .slice none 0 0, .int .i64 0, .int .i64 0, .int .u16 0, .int .u16 0, .int .u16 0, .int .i64 0, .int .i64 0, .bool false, .int .i64 0, .slice none 0 0] 31)).cell? ⟨b, off + 4, none⟩ = some (.int .u8 z4) := by
    rw [World.cell?_alloc_lt w _ ⟨b, off + 4, none⟩ hb]
    exact hc4'
  have hb4 := hx.at_ 4
  change 0 ≤ zs.getD 4 0 ∧ zs.getD 4 0 ≤ 255 at hb4
  rw [h4] at hb4
  have l4 := hb4.1
  have u4 := hb4.2
  have hc5' := hcell 5 (by omega)
  rw [h5] at hc5'
  have hc5 : (w.alloc (.cells #[.int .i64 0, .int .i64 0, .slice none 0 0, .slice none 0 0, .int .i64 0, .int .i64 0, .int .u16 0, .int .u16 0, .int .u16 0, .int .i64 0, .int .i64 0, .bool false, .int .i64 0, .slice none 0 0] 31)).cell? ⟨b, off + 5, none⟩ = some (.int .u8 z5) := by
    rw [World.cell?_alloc_lt w _ ⟨b, off + 5, none⟩ hb]
    exact hc5'
  have hb5 := hx.at_ 5
  change 0 ≤ zs.getD 5 0 ∧ zs.getD 5 0 ≤ 255 at hb5
  rw [h5] at hb5
  have l5 := hb5.1
  have u5 := hb5.2
  have hc6' := hcell 6 (by omega)
  rw [h6] at hc6'
  have hc6 : (w.alloc (.cells #[.int .i64 0, .int .i64 0, .slice none 0 0, .slice none 0 0, .int .i64 0, .int .i64 0, .int .u16 0, .int .u16 0, .int .u16 0, .int .i64 0, .int .i64 0, .bool false, .int .i64 0, .slice none 0 0] 31)).cell? ⟨b, off + 6, none⟩ = some (.int .u8 z6) := by
    rw [World.cell?_alloc_lt w _ ⟨b, off + 6, none⟩ hb]
    exact hc6'
  have hb6 := hx.at_ 6
  change 0 ≤ zs.getD 6 0 ∧ zs.getD 6 0 ≤ 255 at hb6
  rw [h6] at hb6
  have l6 := hb6.1
  have u6 := hb6.2
  clear hr hx hcell hlt h1 h2 h3 h4 h5 h6 hb1 hb2 hb3 hb4 hb5 hb6
  rcases (show z1 ≠ 14 ∨ (z1 = 14 ∧ z4 ≠ 0 ∧ z4 ≠ 255) by omega) with hz | ⟨hz, hz0, hz255⟩
  · have q1 : (z1 != 14) = true := by simpa using hz
    clear hno
    go_enter Try.func74, Try.ntmps74
    go_wp2
    go_quiet (fail)
    go_wp2
    obtain ⟨X, hX⟩ : ∃ X, (w.alloc (.cells #[.int .i64 0, .int .i64 0, .slice none 0 0, .slice none 0 0, .int .i64 0, .int .i64 0, .int .u16 0, .int .u16 0, .int .u16 0, .int .i64 0, .int .i64 0, .bool false, .int .i64 0, .slice none 0 0] 31)).drewN nq = X := ⟨_, rfl⟩
    have hx0 : WholeV X w.heap.size 31 [.int .i64 0, .int .i64 0, .slice none 0 0, .slice none 0 0, .int .i64 0, .int .i64 0, .int .u16 0, .int .u16 0, .int .u16 0, .int .i64 0, .int .i64 0, .bool false, .int .i64 0, .slice none 0 0] := by rw [← hX]; exact heap_alloc_new w _
    have hxb : Below w.heap.size w X := by rw [← hX]; exact below_drewN ((Below.refl _ _).alloc (Nat.le_refl _) _) _
    rw [hX]
    clear hX
    obtain ⟨w9, hw9⟩ : ∃ w9, ((((((((((((((X.setCell ⟨w.heap.size, 0, none⟩ (.int .i64 0)).setCell ⟨w.heap.size, 1, none⟩ (.int .i64 0)).setCell ⟨w.heap.size, 2, none⟩ (.slice none 0 0)).setCell ⟨w.heap.size, 3, none⟩ (.slice none 0 0)).setCell ⟨w.heap.size, 4, none⟩ (.int .i64 0)).setCell ⟨w.heap.size, 5, none⟩ (.int .i64 0)).setCell ⟨w.heap.size, 6, none⟩ (.int .u16 0)).setCell ⟨w.heap.size, 7, none⟩ (.int .u16 0)).setCell ⟨w.heap.size, 8, none⟩ (.int .u16 0)).setCell ⟨w.heap.size, 9, none⟩ (.int .i64 0)).setCell ⟨w.heap.size, 10, none⟩ (.int .i64 0)).setCell ⟨w.heap.size, 11, none⟩ (.bool false)).setCell ⟨w.heap.size, 12, none⟩ (.int .i64 0)).setCell ⟨w.heap.size, 13, none⟩ (.slice none 0 0)) = w9 := ⟨_, rfl⟩
    have hwh := all14 hx0 (.int .i64 0) (.int .i64 0) (.slice none 0 0) (.slice none 0 0) (.int .i64 0) (.int .i64 0) (.int .u16 0) (.int .u16 0) (.int .u16 0) (.int .i64 0) (.int .i64 0) (.bool false) (.int .i64 0) (.slice none 0 0) rfl
    have hbb := bel14 hxb (.int .i64 0) (.int .i64 0) (.slice none 0 0) (.slice none 0 0) (.int .i64 0) (.int .i64 0) (.int .u16 0) (.int .u16 0) (.int .u16 0) (.int .i64 0) (.int .i64 0) (.bool false) (.int .i64 0) (.slice none 0 0)
    rw [hw9] at hwh hbb
    rw [hw9]
    obtain ⟨he0, he1, he2, he3, he4, he5, he6, he7, he8, he9, he10, he11, he12, he13⟩ := cells14 hwh
    exact bodyPost_ret (v := .tuple #[.agg #[.int .i64 0, .int .i64 0, .slice none 0 0, .slice none 0 0, .int .i64 0, .int .i64 0, .int .u16 0, .int .u16 0, .int .u16 0, .int .i64 0, .int .i64 0, .bool false, .int .i64 0, .slice none 0 0], .bool false]) (by simp [results, Try.results74, go_sem, he0, he1, he2, he3, he4, he5, he6, he7, he8, he9, he10, he11, he12, he13]) rfl ⟨rfl, hbb⟩
  · have q1 : (z1 != 14) = false := by simp [hz]
    have q2 : (z4 != 0) = true := by simpa using hz0
    have q3 : (z4 != 255) = true := by simpa using hz255
    clear hno hz
    go_enter Try.func74, Try.ntmps74
    go_wp2
    go_quiet (fail)
    go_wp2
    obtain ⟨X, hX⟩ : ∃ X, (w.alloc (.cells #[.int .i64 0, .int .i64 0, .slice none 0 0, .slice none 0 0, .int .i64 0, .int .i64 0, .int .u16 0, .int .u16 0, .int .u16 0, .int .i64 0, .int .i64 0, .bool false, .int .i64 0, .slice none 0 0] 31)).drewN nq = X := ⟨_, rfl⟩
    have hx0 : WholeV X w.heap.size 31 [.int .i64 0, .int .i64 0, .slice none 0 0, .slice none 0 0, .int .i64 0, .int .i64 0, .int .u16 0, .int .u16 0, .int .u16 0, .int .i64 0, .int .i64 0, .bool false, .int .i64 0, .slice none 0 0] := by rw [← hX]; exact heap_alloc_new w _
    have hxb : Below w.heap.size w X := by rw [← hX]; exact below_drewN ((Below.refl _ _).alloc (Nat.le_refl _) _) _
    rw [hX]
    clear hX
    obtain ⟨w9, hw9⟩ : ∃ w9, ((((((((((((((X.setCell ⟨w.heap.size, 0, none⟩ (.int .i64 0)).setCell ⟨w.heap.size, 1, none⟩ (.int .i64 0)).setCell ⟨w.heap.size, 2, none⟩ (.slice none 0 0)).setCell ⟨w.heap.size, 3, none⟩ (.slice none 0 0)).setCell ⟨w.heap.size, 4, none⟩ (.int .i64 0)).setCell ⟨w.heap.size, 5, none⟩ (.int .i64 0)).setCell ⟨w.heap.size, 6, none⟩ (.int .u16 0)).setCell ⟨w.heap.size, 7, none⟩ (.int .u16 0)).setCell ⟨w.heap.size, 8, none⟩ (.int .u16 0)).setCell ⟨w.heap.size, 9, none⟩ (.int .i64 0)).setCell ⟨w.heap.size, 10, none⟩ (.int .i64 0)).setCell ⟨w.heap.size, 11, none⟩ (.bool false)).setCell ⟨w.heap.size, 12, none⟩ (.int .i64 0)).setCell ⟨w.heap.size, 13, none⟩ (.slice none 0 0)) = w9 := ⟨_, rfl⟩
    have hwh := all14 hx0 (.int .i64 0) (.int .i64 0) (.slice none 0 0) (.slice none 0 0) (.int .i64 0) (.int .i64 0) (.int .u16 0) (.int .u16 0) (.int .u16 0) (.int .i64 0) (.int .i64 0) (.bool false) (.int .i64 0) (.slice none 0 0) rfl
    have hbb := bel14 hxb (.int .i64 0) (.int .i64 0) (.slice none 0 0) (.slice none 0 0) (.int .i64 0) (.int .i64 0) (.int .u16 0) (.int .u16 0) (.int .u16 0) (.int .i64 0) (.int .i64 0) (.bool false) (.int .i64 0) (.slice none 0 0)
    rw [hw9] at hwh hbb
    rw [hw9]
    obtain ⟨he0, he1, he2, he3, he4, he5, he6, he7, he8, he9, he10, he11, he12, he13⟩ := cells14 hwh
    exact bodyPost_ret (v := .tuple #[.agg #[.int .i64 0, .int .i64 0, .slice none 0 0, .slice none 0 0, .int .i64 0, .int .i64 0, .int .u16 0, .int .u16 0, .int .u16 0, .int .i64 0, .int .i64 0, .bool false, .int .i64 0, .slice none 0 0], .bool false]) (by simp [results, Try.results74, go_sem, he0, he1, he2, he3, he4, he5, he6, he7, he8, he9, he10, he11, he12, he13]) rfl ⟨rfl, hbb⟩

/-- What device leaves of a right head. -/
def DevGottrue (z2 z3 z5 : Int) (N : Nat) (zs : List Int) (w : World) (e : Ending) (w' : World) : Prop :=
  ∃ OA ol oc ok, e = .returned (.tuple #[.agg #[.int .i64 43, .int .i64 0, .slice none 0 0, .slice none 0 0, .int .i64 0, .int .i64 0, .int .u16 0, .int .u16 0, .int .u16 0, .int .i64 z2, .int .i64 z3, .bool true, .int .i64 z5, .slice OA ol oc], .bool ok]) ∧ Below w.heap.size w w' ∧ (∀ os, parseO N (zs.drop 7) = some os → ok = true ∧ ol = os.length ∧ w'.ownsRow (w.heap.size + 2) 72 2 (.slice OA ol oc) ol (obs os)) ∧ (parseO N (zs.drop 7) = none → ok = false)

set_option maxRecDepth 100000 in
set_option maxHeartbeats 4000000 in
theorem pdev_255 (b off n c : Nat) (zs : List Int) (z1 z2 z3 z4 z5 z6 : Int) (N : Nat) (w : World) (hr : Row .u8 w w.heap.size (some ⟨b, off, none⟩) n zs) (hx : Bytes8 zs) (hn : 7 ≤ n) (hn2 : n ≤ 1000) (hc : n ≤ c) (hc7 : 7 < c) (h1 : zs.getD 1 0 = z1) (h2 : zs.getD 2 0 = z2) (h3 : zs.getD 3 0 = z3) (h4 : zs.getD 4 0 = z4) (h5 : zs.getD 5 0 = z5) (h6 : zs.getD 6 0 = z6) (hz1 : z1 = 14) (hz4 : z4 = 255) (hz6 : z6 = (N : Int)) :
    Calls Try.prog 74 #[.slice (some ⟨b, off, none⟩) n c] w (DevGottrue z2 z3 z5 N zs w) := by
  obtain ⟨b', off', he, hb, hcell⟩ := hr.2 (by omega)
  injection he with he
  injection he with e1 e2
  subst e1 e2
  have hl' : ¬ (n : Int) < 7 := by omega
  have n6 : (6 : Int) < (n : Int) := by omega
  have n6' : 6 < n := by omega
  have n5' : 5 < n := by omega
  have n4' : 4 < n := by omega
  have n3' : 3 < n := by omega
  have n2' : 2 < n := by omega
  have n1' : 1 < n := by omega
  have n7' : (7 : Int) ≤ (n : Int) := by omega
  have hc1' := hcell 1 (by omega)
  rw [h1] at hc1'
  have hc1 : (w.alloc (.cells #[.int .i64 0, .int .i64 0, .slice none 0 0, .slice none 0 0, .int .i64 0, .int .i64 0, .int .u16 0, .int .u16 0, .int .u16 0, .int .i64 0, .int .i64 0, .bool false, .int .i64 0, .slice none 0 0] 31)).cell? ⟨b, off + 1, none⟩ = some (.int .u8 z1) := by
    rw [World.cell?_alloc_lt w _ ⟨b, off + 1, none⟩ hb]
    exact hc1'
  have hb1 := hx.at_ 1
  change 0 ≤ zs.getD 1 0 ∧ zs.getD 1 0 ≤ 255 at hb1
  rw [h1] at hb1
  have l1 := hb1.1
  have u1 := hb1.2
  have hc2' := hcell 2 (by omega)
  rw [h2] at hc2'
  have hc2 : (w.alloc (.cells #[.int .i64 0, .int .i64 0, .slice none 0 0, .slice none 0 0, .int .i64 0, .int .i64 0, .int .u16 0, .int .u16 0, .int .u16 0, .int .i64 0, .int .i64 0, .bool false, .int .i64 0, .slice none 0 0] 31)).cell? ⟨b, off + 2, none⟩ = some (.int .u8 z2) := by
    rw [World.cell?_alloc_lt w _ ⟨b, off + 2, none⟩ hb]
    exact hc2'
  have hb2 := hx.at_ 2
  change 0 ≤ zs.getD 2 0 ∧ zs.getD 2 0 ≤ 255 at hb2
  rw [h2] at hb2
  have l2 := hb2.1
  have u2 := hb2.2
  have hc3' := hcell 3 (by omega)
  rw [h3] at hc3'
  have hc3 : (w.alloc (.cells #[.int .i64 0, .int .i64 0, .slice none 0 0, .slice none 0 0, .int .i64 0, .int .i64 0, .int .u16 0, .int .u16 0, .int .u16 0, .int .i64 0, .int .i64 0, .bool false, .int .i64 0, .slice none 0 0] 31)).cell? ⟨b, off + 3, none⟩ = some (.int .u8 z3) := by
    rw [World.cell?_alloc_lt w _ ⟨b, off + 3, none⟩ hb]
    exact hc3'
  have hb3 := hx.at_ 3
  change 0 ≤ zs.getD 3 0 ∧ zs.getD 3 0 ≤ 255 at hb3
  rw [h3] at hb3
  have l3 := hb3.1
  have u3 := hb3.2
  have hc4' := hcell 4 (by omega)
  rw [h4] at hc4'
  have hc4 : (w.alloc (.cells #[.int .i64 0, .int .i64 0, .slice none 0 0, .slice none 0 0, .int .i64 0, .int .i64 0, .int .u16 0, .int .u16 0, .int .u16 0, .int .i64 0, .int .i64 0, .bool false, .int .i64 0, .slice none 0 0] 31)).cell? ⟨b, off + 4, none⟩ = some (.int .u8 z4) := by
    rw [World.cell?_alloc_lt w _ ⟨b, off + 4, none⟩ hb]
    exact hc4'
  have hb4 := hx.at_ 4
  change 0 ≤ zs.getD 4 0 ∧ zs.getD 4 0 ≤ 255 at hb4
  rw [h4] at hb4
  have l4 := hb4.1
  have u4 := hb4.2
  have hc5' := hcell 5 (by omega)
  rw [h5] at hc5'
  have hc5 : (w.alloc (.cells #[.int .i64 0, .int .i64 0, .slice none 0 0, .slice none 0 0, .int .i64 0, .int .i64 0, .int .u16 0, .int .u16 0, .int .u16 0, .int .i64 0, .int .i64 0, .bool false, .int .i64 0, .slice none 0 0] 31)).cell? ⟨b, off + 5, none⟩ = some (.int .u8 z5) := by
    rw [World.cell?_alloc_lt w _ ⟨b, off + 5, none⟩ hb]
    exact hc5'
  have hb5 := hx.at_ 5
  change 0 ≤ zs.getD 5 0 ∧ zs.getD 5 0 ≤ 255 at hb5
  rw [h5] at hb5
  have l5 := hb5.1
  have u5 := hb5.2
  have hc6' := hcell 6 (by omega)
  rw [h6] at hc6'
  have hc6 : (w.alloc (.cells #[.int .i64 0, .int .i64 0, .slice none 0 0, .slice none 0 0, .int .i64 0, .int .i64 0, .int .u16 0, .int .u16 0, .int .u16 0, .int .i64 0, .int .i64 0, .bool false, .int .i64 0, .slice none 0 0] 31)).cell? ⟨b, off + 6, none⟩ = some (.int .u8 z6) := by
    rw [World.cell?_alloc_lt w _ ⟨b, off + 6, none⟩ hb]
    exact hc6'
  have hb6 := hx.at_ 6
  change 0 ≤ zs.getD 6 0 ∧ zs.getD 6 0 ≤ 255 at hb6
  rw [h6] at hb6
  have l6 := hb6.1
  have u6 := hb6.2
  have hN : N ≤ 255 := by omega
  have w2_ : IntKind.i64.wrap z2 = z2 := IntWalk.i64_in _ (by omega)
  have w3_ : IntKind.i64.wrap z3 = z3 := IntWalk.i64_in _ (by omega)
  have w5_ : IntKind.i64.wrap z5 = z5 := IntWalk.i64_in _ (by omega)
  have w6_ : IntKind.i64.wrap z6 = (N : Int) := (IntWalk.i64_in _ (by omega)).trans hz6
  have hc7n : ¬ c = 7 := by omega
  have CO := Lib.hid (fun W (hW : Below w.heap.size w W) => pobjs_any (some ⟨b, off + 7, none⟩) (n - 7) (c - 7) (zs.drop 7) N W (((rowI_drop hr 7 hn).below hW).more hW.size) (fun z hz => hx z (List.mem_of_mem_drop hz)) (by omega) (by omega) hN)
  subst hz1
  subst hz4
  have HZ6 := Lib.hid hz6
  clear hr hx hcell hz6 h1 h2 h3 h4 h5 h6 hb1 hb2 hb3 hb4 hb5 hb6
  go_enter Try.func74, Try.ntmps74
  go_wp2
  go_quiet (fail)
  go_wp2_with (
    (go_at_call 99
     (with_reducible refine (CO.out _ ?_).mono ?_)
     · exact (below_drewN ((Below.refl _ _).alloc (Nat.le_refl _) _) _).alloc (by simp) _
     rintro e w2 ⟨OA, ol, oc, ok, rfl, hb2, h1, h2⟩
     have hM0 := heap_alloc_new ((w.alloc (.cells #[.int .i64 0, .int .i64 0, .slice none 0 0, .slice none 0 0, .int .i64 0, .int .i64 0, .int .u16 0, .int .u16 0, .int .u16 0, .int .i64 0, .int .i64 0, .bool false, .int .i64 0, .slice none 0 0] 31)).drewN nq) (.cells #[.int .i64 43, .int .i64 0, .slice none 0 0, .slice none 0 0, .int .i64 0, .int .i64 0, .int .u16 0, .int .u16 0, .int .u16 0, .int .i64 z2, .int .i64 z3, .bool true, .int .i64 z5, .slice none 0 0] 31)
     rw [show ((w.alloc (.cells #[.int .i64 0, .int .i64 0, .slice none 0 0, .slice none 0 0, .int .i64 0, .int .i64 0, .int .u16 0, .int .u16 0, .int .u16 0, .int .i64 0, .int .i64 0, .bool false, .int .i64 0, .slice none 0 0] 31)).drewN nq).heap.size = w.heap.size + 1 by simp] at hM0
     have hM1 : WholeV (((w.alloc (.cells #[.int .i64 0, .int .i64 0, .slice none 0 0, .slice none 0 0, .int .i64 0, .int .i64 0, .int .u16 0, .int .u16 0, .int .u16 0, .int .i64 0, .int .i64 0, .bool false, .int .i64 0, .slice none 0 0] 31)).drewN nq).alloc (.cells #[.int .i64 43, .int .i64 0, .slice none 0 0, .slice none 0 0, .int .i64 0, .int .i64 0, .int .u16 0, .int .u16 0, .int .u16 0, .int .i64 z2, .int .i64 z3, .bool true, .int .i64 z5, .slice none 0 0] 31)) (w.heap.size + 1) 31 [.int .i64 43, .int .i64 0, .slice none 0 0, .slice none 0 0, .int .i64 0, .int .i64 0, .int .u16 0, .int .u16 0, .int .u16 0, .int .i64 z2, .int .i64 z3, .bool true, .int .i64 z5, .slice none 0 0] := hM0
     have hX0 : WholeV ((w.alloc (.cells #[.int .i64 0, .int .i64 0, .slice none 0 0, .slice none 0 0, .int .i64 0, .int .i64 0, .int .u16 0, .int .u16 0, .int .u16 0, .int .i64 0, .int .i64 0, .bool false, .int .i64 0, .slice none 0 0] 31)).drewN nq) w.heap.size 31 [.int .i64 0, .int .i64 0, .slice none 0 0, .slice none 0 0, .int .i64 0, .int .i64 0, .int .u16 0, .int .u16 0, .int .u16 0, .int .i64 0, .int .i64 0, .bool false, .int .i64 0, .slice none 0 0] := heap_alloc_new w _
     have hX1 : WholeV (((w.alloc (.cells #[.int .i64 0, .int .i64 0, .slice none 0 0, .slice none 0 0, .int .i64 0, .int .i64 0, .int .u16 0, .int .u16 0, .int .u16 0, .int .i64 0, .int .i64 0, .bool false, .int .i64 0, .slice none 0 0] 31)).drewN nq).alloc (.cells #[.int .i64 43, .int .i64 0, .slice none 0 0, .slice none 0 0, .int .i64 0, .int .i64 0, .int .u16 0, .int .u16 0, .int .u16 0, .int .i64 z2, .int .i64 z3, .bool true, .int .i64 z5, .slice none 0 0] 31)) w.heap.size 31 [.int .i64 0, .int .i64 0, .slice none 0 0, .slice none 0 0, .int .i64 0, .int .i64 0, .int .u16 0, .int .u16 0, .int .u16 0, .int .i64 0, .int .i64 0, .bool false, .int .i64 0, .slice none 0 0] := hX0.below ((Below.refl _ _).alloc (Nat.le_refl _) _) (by simp)
     have hM2 := hM1.below hb2 (by simp)
     have hX2 := hX1.below hb2 (by simp; omega)
     have hbB : Below w.heap.size w w2 := ((below_drewN ((Below.refl w.heap.size w).alloc (Nat.le_refl _) _) nq).alloc (by simp) _).trans (hb2.mono (by simp; omega))
     have hz2 : w.heap.size + 2 ≤ w2.heap.size := by have := hb2.size; simp at this; omega
     rw [show (((w.alloc (.cells #[.int .i64 0, .int .i64 0, .slice none 0 0, .slice none 0 0, .int .i64 0, .int .i64 0, .int .u16 0, .int .u16 0, .int .u16 0, .int .i64 0, .int .i64 0, .bool false, .int .i64 0, .slice none 0 0] 31)).drewN nq).alloc (.cells #[.int .i64 43, .int .i64 0, .slice none 0 0, .slice none 0 0, .int .i64 0, .int .i64 0, .int .u16 0, .int .u16 0, .int .u16 0, .int .i64 z2, .int .i64 z3, .bool true, .int .i64 z5, .slice none 0 0] 31)).heap.size = w.heap.size + 2 by simp] at h1
     obtain ⟨tc0, tc1, tc2, tc3, tc4, tc5, tc6, tc7, tc8, tc9, tc10, tc11, tc12, tc13⟩ := cells14 hM2
     obtain ⟨xc0, xc1, xc2, xc3, xc4, xc5, xc6, xc7, xc8, xc9, xc10, xc11, xc12, xc13⟩ := cells14 hX2
     have tf13 := hM2.frozen 13
     have xf0 := hX2.frozen 0
     have xf1 := hX2.frozen 1
     have xf2 := hX2.frozen 2
     have xf3 := hX2.frozen 3
     have xf4 := hX2.frozen 4
     have xf5 := hX2.frozen 5
     have xf6 := hX2.frozen 6
     have xf7 := hX2.frozen 7
     have xf8 := hX2.frozen 8
     have xf9 := hX2.frozen 9
     have xf10 := hX2.frozen 10
     have xf11 := hX2.frozen 11
     have xf12 := hX2.frozen 12
     have xf13 := hX2.frozen 13
     have HX2 := Lib.hid hX2
     have HBB := Lib.hid hbB
     have H1 := Lib.hid h1
     have H2 := Lib.hid h2
     clear hM0 hM1 hX0 hX1 hM2 hX2 hbB hb2 h1 h2))
  obtain ⟨X, hX⟩ : ∃ X, w2.setCell ⟨w.heap.size + 1, 13, none⟩ (.slice OA ol oc) = X := ⟨_, rfl⟩
  have hx0 : WholeV X w.heap.size 31 [.int .i64 0, .int .i64 0, .slice none 0 0, .slice none 0 0, .int .i64 0, .int .i64 0, .int .u16 0, .int .u16 0, .int .u16 0, .int .i64 0, .int .i64 0, .bool false, .int .i64 0, .slice none 0 0] := by rw [← hX]; exact HX2.out.below ((Below.refl (w.heap.size + 1) _).setCell (p := ⟨w.heap.size + 1, 13, none⟩) (Nat.le_refl _) (.slice OA ol oc)) (Nat.lt_succ_self _)
  have hxb : Below w.heap.size w X := by rw [← hX]; exact HBB.out.setCell (p := ⟨w.heap.size + 1, 13, none⟩) (Nat.le_succ _) (.slice OA ol oc)
  have hxo : ∀ os, w2.ownsRow (w.heap.size + 2) 72 2 (.slice OA ol oc) ol (obs os) → X.ownsRow (w.heap.size + 2) 72 2 (.slice OA ol oc) ol (obs os) := fun os h => by rw [← hX]; exact ownsRow_setCell_below h (a := ⟨w.heap.size + 1, 13, none⟩) (show w.heap.size + 1 < w.heap.size + 2 by omega) _
  rw [hX]
  clear hX
  obtain ⟨w9, hw9⟩ : ∃ w9, ((((((((((((((X.setCell ⟨w.heap.size, 0, none⟩ (.int .i64 43)).setCell ⟨w.heap.size, 1, none⟩ (.int .i64 0)).setCell ⟨w.heap.size, 2, none⟩ (.slice none 0 0)).setCell ⟨w.heap.size, 3, none⟩ (.slice none 0 0)).setCell ⟨w.heap.size, 4, none⟩ (.int .i64 0)).setCell ⟨w.heap.size, 5, none⟩ (.int .i64 0)).setCell ⟨w.heap.size, 6, none⟩ (.int .u16 0)).setCell ⟨w.heap.size, 7, none⟩ (.int .u16 0)).setCell ⟨w.heap.size, 8, none⟩ (.int .u16 0)).setCell ⟨w.heap.size, 9, none⟩ (.int .i64 z2)).setCell ⟨w.heap.size, 10, none⟩ (.int .i64 z3)).setCell ⟨w.heap.size, 11, none⟩ (.bool true)).setCell ⟨w.heap.size, 12, none⟩ (.int .i64 z5)).setCell ⟨w.heap.size, 13, none⟩ (.slice OA ol oc)) = w9 := ⟨_, rfl⟩
  have hwh := all14 hx0 (.int .i64 43) (.int .i64 0) (.slice none 0 0) (.slice none 0 0) (.int .i64 0) (.int .i64 0) (.int .u16 0) (.int .u16 0) (.int .u16 0) (.int .i64 z2) (.int .i64 z3) (.bool true) (.int .i64 z5) (.slice OA ol oc) rfl
  have hbb := bel14 hxb (.int .i64 43) (.int .i64 0) (.slice none 0 0) (.slice none 0 0) (.int .i64 0) (.int .i64 0) (.int .u16 0) (.int .u16 0) (.int .u16 0) (.int .i64 z2) (.int .i64 z3) (.bool true) (.int .i64 z5) (.slice OA ol oc)
  have hoo : ∀ os, X.ownsRow (w.heap.size + 2) 72 2 (.slice OA ol oc) ol (obs os) → w9.ownsRow (w.heap.size + 2) 72 2 (.slice OA ol oc) ol (obs os) := fun os h => by
    rw [← hw9]
    exact (ownsRow_setCell_below (ownsRow_setCell_below (ownsRow_setCell_below (ownsRow_setCell_below (ownsRow_setCell_below (ownsRow_setCell_below (ownsRow_setCell_below (ownsRow_setCell_below (ownsRow_setCell_below (ownsRow_setCell_below (ownsRow_setCell_below (ownsRow_setCell_below (ownsRow_setCell_below (ownsRow_setCell_below h (a := ⟨w.heap.size, 0, none⟩) (show w.heap.size < w.heap.size + 2 by omega) _) (a := ⟨w.heap.size, 1, none⟩) (show w.heap.size < w.heap.size + 2 by omega) _) (a := ⟨w.heap.size, 2, none⟩) (show w.heap.size < w.heap.size + 2 by omega) _) (a := ⟨w.heap.size, 3, none⟩) (show w.heap.size < w.heap.size + 2 by omega) _) (a := ⟨w.heap.size, 4, none⟩) (show w.heap.size < w.heap.size + 2 by omega) _) (a := ⟨w.heap.size, 5, none⟩) (show w.heap.size < w.heap.size + 2 by omega) _) (a := ⟨w.heap.size, 6, none⟩) (show w.heap.size < w.heap.size + 2 by omega) _) (a := ⟨w.heap.size, 7, none⟩) (show w.heap.size < w.heap.size + 2 by omega) _) (a := ⟨w.heap.size, 8, none⟩) (show w.heap.size < w.heap.size + 2 by omega) _) (a := ⟨w.heap.size, 9, none⟩) (show w.heap.size < w.heap.size + 2 by omega) _) (a := ⟨w.heap.size, 10, none⟩) (show w.heap.size < w.heap.size + 2 by omega) _) (a := ⟨w.heap.size, 11, none⟩) (show w.heap.size < w.heap.size + 2 by omega) _) (a := ⟨w.heap.size, 12, none⟩) (show w.heap.size < w.heap.size + 2 by omega) _) (a := ⟨w.heap.size, 13, none⟩) (show w.heap.size < w.heap.size + 2 by omega) _)
  rw [hw9] at hwh hbb
  rw [hw9]
  obtain ⟨he0, he1, he2, he3, he4, he5, he6, he7, he8, he9, he10, he11, he12, he13⟩ := cells14 hwh
  exact bodyPost_ret (v := .tuple #[.agg #[.int .i64 43, .int .i64 0, .slice none 0 0, .slice none 0 0, .int .i64 0, .int .i64 0, .int .u16 0, .int .u16 0, .int .u16 0, .int .i64 z2, .int .i64 z3, .bool true, .int .i64 z5, .slice OA ol oc], .bool ok]) (by simp [results, Try.results74, go_sem, he0, he1, he2, he3, he4, he5, he6, he7, he8, he9, he10, he11, he12, he13]) rfl ⟨OA, ol, oc, ok, rfl, hbb, fun os h => ⟨(H1.out os h).1, (H1.out os h).2.1, hoo os (hxo os (H1.out os h).2.2)⟩, H2.out⟩

/-- What device leaves of a right head. -/
def DevGotfalse (z2 z3 z5 : Int) (N : Nat) (zs : List Int) (w : World) (e : Ending) (w' : World) : Prop :=
  ∃ OA ol oc ok, e = .returned (.tuple #[.agg #[.int .i64 43, .int .i64 0, .slice none 0 0, .slice none 0 0, .int .i64 0, .int .i64 0, .int .u16 0, .int .u16 0, .int .u16 0, .int .i64 z2, .int .i64 z3, .bool false, .int .i64 z5, .slice OA ol oc], .bool ok]) ∧ Below w.heap.size w w' ∧ (∀ os, parseO N (zs.drop 7) = some os → ok = true ∧ ol = os.length ∧ w'.ownsRow (w.heap.size + 2) 72 2 (.slice OA ol oc) ol (obs os)) ∧ (parseO N (zs.drop 7) = none → ok = false)

set_option maxRecDepth 100000 in
set_option maxHeartbeats 4000000 in
theorem pdev_0 (b off n c : Nat) (zs : List Int) (z1 z2 z3 z4 z5 z6 : Int) (N : Nat) (w : World) (hr : Row .u8 w w.heap.size (some ⟨b, off, none⟩) n zs) (hx : Bytes8 zs) (hn : 7 ≤ n) (hn2 : n ≤ 1000) (hc : n ≤ c) (hc7 : 7 < c) (h1 : zs.getD 1 0 = z1) (h2 : zs.getD 2 0 = z2) (h3 : zs.getD 3 0 = z3) (h4 : zs.getD 4 0 = z4) (h5 : zs.getD 5 0 = z5) (h6 : zs.getD 6 0 = z6) (hz1 : z1 = 14) (hz4 : z4 = 0) (hz6 : z6 = (N : Int)) :
    Calls Try.prog 74 #[.slice (some ⟨b, off, none⟩) n c] w (DevGotfalse z2 z3 z5 N zs w) := by
  obtain ⟨b', off', he, hb, hcell⟩ := hr.2 (by omega)
  injection he with he
  injection he with e1 e2
  subst e1 e2
  have hl' : ¬ (n : Int) < 7 := by omega
  have n6 : (6 : Int) < (n : Int) := by omega
  have n6' : 6 < n := by omega
  have n5' : 5 < n := by omega
  have n4' : 4 < n := by omega
  have n3' : 3 < n := by omega
  have n2' : 2 < n := by omega
  have n1' : 1 < n := by omega
  have n7' : (7 : Int) ≤ (n : Int) := by omega
  have hc1' := hcell 1 (by omega)
  rw [h1] at hc1'
  have hc1 : (w.alloc (.cells #[.int .i64 0, .int .i64 0, .slice none 0 0, .slice none 0 0, .int .i64 0, .int .i64 0, .int .u16 0, .int .u16 0, .int .u16 0, .int .i64 0, .int .i64 0, .bool false, .int .i64 0, .slice none 0 0] 31)).cell? ⟨b, off + 1, none⟩ = some (.int .u8 z1) := by
    rw [World.cell?_alloc_lt w _ ⟨b, off + 1, none⟩ hb]
    exact hc1'
  have hb1 := hx.at_ 1
  change 0 ≤ zs.getD 1 0 ∧ zs.getD 1 0 ≤ 255 at hb1
  rw [h1] at hb1
  have l1 := hb1.1
  have u1 := hb1.2
  have hc2' := hcell 2 (by omega)
  rw [h2] at hc2'
  have hc2 : (w.alloc (.cells #[.int .i64 0, .int .i64 0, .slice none 0 0, .slice none 0 0, .int .i64 0, .int .i64 0, .int .u16 0, .int .u16 0, .int .u16 0, .int .i64 0, .int .i64 0, .bool false, .int .i64 0, .slice none 0 0] 31)).cell? ⟨b, off + 2, none⟩ = some (.int .u8 z2) := by
    rw [World.cell?_alloc_lt w _ ⟨b, off + 2, none⟩ hb]
    exact hc2'
  have hb2 := hx.at_ 2
  change 0 ≤ zs.getD 2 0 ∧ zs.getD 2 0 ≤ 255 at hb2
  rw [h2] at hb2
  have l2 := hb2.1
  have u2 := hb2.2
  have hc3' := hcell 3 (by omega)
  rw [h3] at hc3'
  have hc3 : (w.alloc (.cells #[.int .i64 0, .int .i64 0, .slice none 0 0, .slice none 0 0, .int .i64 0, .int .i64 0, .int .u16 0, .int .u16 0, .int .u16 0, .int .i64 0, .int .i64 0, .bool false, .int .i64 0, .slice none 0 0] 31)).cell? ⟨b, off + 3, none⟩ = some (.int .u8 z3) := by
    rw [World.cell?_alloc_lt w _ ⟨b, off + 3, none⟩ hb]
    exact hc3'
  have hb3 := hx.at_ 3
  change 0 ≤ zs.getD 3 0 ∧ zs.getD 3 0 ≤ 255 at hb3
  rw [h3] at hb3
  have l3 := hb3.1
  have u3 := hb3.2
  have hc4' := hcell 4 (by omega)
  rw [h4] at hc4'
  have hc4 : (w.alloc (.cells #[.int .i64 0, .int .i64 0, .slice none 0 0, .slice none 0 0, .int .i64 0, .int .i64 0, .int .u16 0, .int .u16 0, .int .u16 0, .int .i64 0, .int .i64 0, .bool false, .int .i64 0, .slice none 0 0] 31)).cell? ⟨b, off + 4, none⟩ = some (.int .u8 z4) := by
    rw [World.cell?_alloc_lt w _ ⟨b, off + 4, none⟩ hb]
    exact hc4'
  have hb4 := hx.at_ 4
  change 0 ≤ zs.getD 4 0 ∧ zs.getD 4 0 ≤ 255 at hb4
  rw [h4] at hb4
  have l4 := hb4.1
  have u4 := hb4.2
  have hc5' := hcell 5 (by omega)
  rw [h5] at hc5'
  have hc5 : (w.alloc (.cells #[.int .i64 0, .int .i64 0, .slice none 0 0, .slice none 0 0, .int .i64 0, .int .i64 0, .int .u16 0, .int .u16 0, .int .u16 0, .int .i64 0, .int .i64 0, .bool false, .int .i64 0, .slice none 0 0] 31)).cell? ⟨b, off + 5, none⟩ = some (.int .u8 z5) := by
    rw [World.cell?_alloc_lt w _ ⟨b, off + 5, none⟩ hb]
    exact hc5'
  have hb5 := hx.at_ 5
  change 0 ≤ zs.getD 5 0 ∧ zs.getD 5 0 ≤ 255 at hb5
  rw [h5] at hb5
  have l5 := hb5.1
  have u5 := hb5.2
  have hc6' := hcell 6 (by omega)
  rw [h6] at hc6'
  have hc6 : (w.alloc (.cells #[.int .i64 0, .int .i64 0, .slice none 0 0, .slice none 0 0, .int .i64 0, .int .i64 0, .int .u16 0, .int .u16 0, .int .u16 0, .int .i64 0, .int .i64 0, .bool false, .int .i64 0, .slice none 0 0] 31)).cell? ⟨b, off + 6, none⟩ = some (.int .u8 z6) := by
    rw [World.cell?_alloc_lt w _ ⟨b, off + 6, none⟩ hb]
    exact hc6'
  have hb6 := hx.at_ 6
  change 0 ≤ zs.getD 6 0 ∧ zs.getD 6 0 ≤ 255 at hb6
  rw [h6] at hb6
  have l6 := hb6.1
  have u6 := hb6.2
  have hN : N ≤ 255 := by omega
  have w2_ : IntKind.i64.wrap z2 = z2 := IntWalk.i64_in _ (by omega)
  have w3_ : IntKind.i64.wrap z3 = z3 := IntWalk.i64_in _ (by omega)
  have w5_ : IntKind.i64.wrap z5 = z5 := IntWalk.i64_in _ (by omega)
  have w6_ : IntKind.i64.wrap z6 = (N : Int) := (IntWalk.i64_in _ (by omega)).trans hz6
  have hc7n : ¬ c = 7 := by omega
  have CO := Lib.hid (fun W (hW : Below w.heap.size w W) => pobjs_any (some ⟨b, off + 7, none⟩) (n - 7) (c - 7) (zs.drop 7) N W (((rowI_drop hr 7 hn).below hW).more hW.size) (fun z hz => hx z (List.mem_of_mem_drop hz)) (by omega) (by omega) hN)
  subst hz1
  subst hz4
  have HZ6 := Lib.hid hz6
  clear hr hx hcell hz6 h1 h2 h3 h4 h5 h6 hb1 hb2 hb3 hb4 hb5 hb6
  go_enter Try.func74, Try.ntmps74
  go_wp2
  go_quiet (fail)
  go_wp2_with (
    (go_at_call 99
     (with_reducible refine (CO.out _ ?_).mono ?_)
     · exact (below_drewN ((Below.refl _ _).alloc (Nat.le_refl _) _) _).alloc (by simp) _
     rintro e w2 ⟨OA, ol, oc, ok, rfl, hb2, h1, h2⟩
     have hM0 := heap_alloc_new ((w.alloc (.cells #[.int .i64 0, .int .i64 0, .slice none 0 0, .slice none 0 0, .int .i64 0, .int .i64 0, .int .u16 0, .int .u16 0, .int .u16 0, .int .i64 0, .int .i64 0, .bool false, .int .i64 0, .slice none 0 0] 31)).drewN nq) (.cells #[.int .i64 43, .int .i64 0, .slice none 0 0, .slice none 0 0, .int .i64 0, .int .i64 0, .int .u16 0, .int .u16 0, .int .u16 0, .int .i64 z2, .int .i64 z3, .bool false, .int .i64 z5, .slice none 0 0] 31)
     rw [show ((w.alloc (.cells #[.int .i64 0, .int .i64 0, .slice none 0 0, .slice none 0 0, .int .i64 0, .int .i64 0, .int .u16 0, .int .u16 0, .int .u16 0, .int .i64 0, .int .i64 0, .bool false, .int .i64 0, .slice none 0 0] 31)).drewN nq).heap.size = w.heap.size + 1 by simp] at hM0
     have hM1 : WholeV (((w.alloc (.cells #[.int .i64 0, .int .i64 0, .slice none 0 0, .slice none 0 0, .int .i64 0, .int .i64 0, .int .u16 0, .int .u16 0, .int .u16 0, .int .i64 0, .int .i64 0, .bool false, .int .i64 0, .slice none 0 0] 31)).drewN nq).alloc (.cells #[.int .i64 43, .int .i64 0, .slice none 0 0, .slice none 0 0, .int .i64 0, .int .i64 0, .int .u16 0, .int .u16 0, .int .u16 0, .int .i64 z2, .int .i64 z3, .bool false, .int .i64 z5, .slice none 0 0] 31)) (w.heap.size + 1) 31 [.int .i64 43, .int .i64 0, .slice none 0 0, .slice none 0 0, .int .i64 0, .int .i64 0, .int .u16 0, .int .u16 0, .int .u16 0, .int .i64 z2, .int .i64 z3, .bool false, .int .i64 z5, .slice none 0 0] := hM0
     have hX0 : WholeV ((w.alloc (.cells #[.int .i64 0, .int .i64 0, .slice none 0 0, .slice none 0 0, .int .i64 0, .int .i64 0, .int .u16 0, .int .u16 0, .int .u16 0, .int .i64 0, .int .i64 0, .bool false, .int .i64 0, .slice none 0 0] 31)).drewN nq) w.heap.size 31 [.int .i64 0, .int .i64 0, .slice none 0 0, .slice none 0 0, .int .i64 0, .int .i64 0, .int .u16 0, .int .u16 0, .int .u16 0, .int .i64 0, .int .i64 0, .bool false, .int .i64 0, .slice none 0 0] := heap_alloc_new w _
     have hX1 : WholeV (((w.alloc (.cells #[.int .i64 0, .int .i64 0, .slice none 0 0, .slice none 0 0, .int .i64 0, .int .i64 0, .int .u16 0, .int .u16 0, .int .u16 0, .int .i64 0, .int .i64 0, .bool false, .int .i64 0, .slice none 0 0] 31)).drewN nq).alloc (.cells #[.int .i64 43, .int .i64 0, .slice none 0 0, .slice none 0 0, .int .i64 0, .int .i64 0, .int .u16 0, .int .u16 0, .int .u16 0, .int .i64 z2, .int .i64 z3, .bool false, .int .i64 z5, .slice none 0 0] 31)) w.heap.size 31 [.int .i64 0, .int .i64 0, .slice none 0 0, .slice none 0 0, .int .i64 0, .int .i64 0, .int .u16 0, .int .u16 0, .int .u16 0, .int .i64 0, .int .i64 0, .bool false, .int .i64 0, .slice none 0 0] := hX0.below ((Below.refl _ _).alloc (Nat.le_refl _) _) (by simp)
     have hM2 := hM1.below hb2 (by simp)
     have hX2 := hX1.below hb2 (by simp; omega)
     have hbB : Below w.heap.size w w2 := ((below_drewN ((Below.refl w.heap.size w).alloc (Nat.le_refl _) _) nq).alloc (by simp) _).trans (hb2.mono (by simp; omega))
     have hz2 : w.heap.size + 2 ≤ w2.heap.size := by have := hb2.size; simp at this; omega
     rw [show (((w.alloc (.cells #[.int .i64 0, .int .i64 0, .slice none 0 0, .slice none 0 0, .int .i64 0, .int .i64 0, .int .u16 0, .int .u16 0, .int .u16 0, .int .i64 0, .int .i64 0, .bool false, .int .i64 0, .slice none 0 0] 31)).drewN nq).alloc (.cells #[.int .i64 43, .int .i64 0, .slice none 0 0, .slice none 0 0, .int .i64 0, .int .i64 0, .int .u16 0, .int .u16 0, .int .u16 0, .int .i64 z2, .int .i64 z3, .bool false, .int .i64 z5, .slice none 0 0] 31)).heap.size = w.heap.size + 2 by simp] at h1
     obtain ⟨tc0, tc1, tc2, tc3, tc4, tc5, tc6, tc7, tc8, tc9, tc10, tc11, tc12, tc13⟩ := cells14 hM2
     obtain ⟨xc0, xc1, xc2, xc3, xc4, xc5, xc6, xc7, xc8, xc9, xc10, xc11, xc12, xc13⟩ := cells14 hX2
     have tf13 := hM2.frozen 13
     have xf0 := hX2.frozen 0
     have xf1 := hX2.frozen 1
     have xf2 := hX2.frozen 2
     have xf3 := hX2.frozen 3
     have xf4 := hX2.frozen 4
     have xf5 := hX2.frozen 5
     have xf6 := hX2.frozen 6
     have xf7 := hX2.frozen 7
     have xf8 := hX2.frozen 8
     have xf9 := hX2.frozen 9
     have xf10 := hX2.frozen 10
     have xf11 := hX2.frozen 11
     have xf12 := hX2.frozen 12
     have xf13 := hX2.frozen 13
     have HX2 := Lib.hid hX2
     have HBB := Lib.hid hbB
     have H1 := Lib.hid h1
     have H2 := Lib.hid h2
     clear hM0 hM1 hX0 hX1 hM2 hX2 hbB hb2 h1 h2))
  obtain ⟨X, hX⟩ : ∃ X, w2.setCell ⟨w.heap.size + 1, 13, none⟩ (.slice OA ol oc) = X := ⟨_, rfl⟩
  have hx0 : WholeV X w.heap.size 31 [.int .i64 0, .int .i64 0, .slice none 0 0, .slice none 0 0, .int .i64 0, .int .i64 0, .int .u16 0, .int .u16 0, .int .u16 0, .int .i64 0, .int .i64 0, .bool false, .int .i64 0, .slice none 0 0] := by rw [← hX]; exact HX2.out.below ((Below.refl (w.heap.size + 1) _).setCell (p := ⟨w.heap.size + 1, 13, none⟩) (Nat.le_refl _) (.slice OA ol oc)) (Nat.lt_succ_self _)
  have hxb : Below w.heap.size w X := by rw [← hX]; exact HBB.out.setCell (p := ⟨w.heap.size + 1, 13, none⟩) (Nat.le_succ _) (.slice OA ol oc)
  have hxo : ∀ os, w2.ownsRow (w.heap.size + 2) 72 2 (.slice OA ol oc) ol (obs os) → X.ownsRow (w.heap.size + 2) 72 2 (.slice OA ol oc) ol (obs os) := fun os h => by rw [← hX]; exact ownsRow_setCell_below h (a := ⟨w.heap.size + 1, 13, none⟩) (show w.heap.size + 1 < w.heap.size + 2 by omega) _
  rw [hX]
  clear hX
  obtain ⟨w9, hw9⟩ : ∃ w9, ((((((((((((((X.setCell ⟨w.heap.size, 0, none⟩ (.int .i64 43)).setCell ⟨w.heap.size, 1, none⟩ (.int .i64 0)).setCell ⟨w.heap.size, 2, none⟩ (.slice none 0 0)).setCell ⟨w.heap.size, 3, none⟩ (.slice none 0 0)).setCell ⟨w.heap.size, 4, none⟩ (.int .i64 0)).setCell ⟨w.heap.size, 5, none⟩ (.int .i64 0)).setCell ⟨w.heap.size, 6, none⟩ (.int .u16 0)).setCell ⟨w.heap.size, 7, none⟩ (.int .u16 0)).setCell ⟨w.heap.size, 8, none⟩ (.int .u16 0)).setCell ⟨w.heap.size, 9, none⟩ (.int .i64 z2)).setCell ⟨w.heap.size, 10, none⟩ (.int .i64 z3)).setCell ⟨w.heap.size, 11, none⟩ (.bool false)).setCell ⟨w.heap.size, 12, none⟩ (.int .i64 z5)).setCell ⟨w.heap.size, 13, none⟩ (.slice OA ol oc)) = w9 := ⟨_, rfl⟩
  have hwh := all14 hx0 (.int .i64 43) (.int .i64 0) (.slice none 0 0) (.slice none 0 0) (.int .i64 0) (.int .i64 0) (.int .u16 0) (.int .u16 0) (.int .u16 0) (.int .i64 z2) (.int .i64 z3) (.bool false) (.int .i64 z5) (.slice OA ol oc) rfl
  have hbb := bel14 hxb (.int .i64 43) (.int .i64 0) (.slice none 0 0) (.slice none 0 0) (.int .i64 0) (.int .i64 0) (.int .u16 0) (.int .u16 0) (.int .u16 0) (.int .i64 z2) (.int .i64 z3) (.bool false) (.int .i64 z5) (.slice OA ol oc)
  have hoo : ∀ os, X.ownsRow (w.heap.size + 2) 72 2 (.slice OA ol oc) ol (obs os) → w9.ownsRow (w.heap.size + 2) 72 2 (.slice OA ol oc) ol (obs os) := fun os h => by
    rw [← hw9]
    exact (ownsRow_setCell_below (ownsRow_setCell_below (ownsRow_setCell_below (ownsRow_setCell_below (ownsRow_setCell_below (ownsRow_setCell_below (ownsRow_setCell_below (ownsRow_setCell_below (ownsRow_setCell_below (ownsRow_setCell_below (ownsRow_setCell_below (ownsRow_setCell_below (ownsRow_setCell_below (ownsRow_setCell_below h (a := ⟨w.heap.size, 0, none⟩) (show w.heap.size < w.heap.size + 2 by omega) _) (a := ⟨w.heap.size, 1, none⟩) (show w.heap.size < w.heap.size + 2 by omega) _) (a := ⟨w.heap.size, 2, none⟩) (show w.heap.size < w.heap.size + 2 by omega) _) (a := ⟨w.heap.size, 3, none⟩) (show w.heap.size < w.heap.size + 2 by omega) _) (a := ⟨w.heap.size, 4, none⟩) (show w.heap.size < w.heap.size + 2 by omega) _) (a := ⟨w.heap.size, 5, none⟩) (show w.heap.size < w.heap.size + 2 by omega) _) (a := ⟨w.heap.size, 6, none⟩) (show w.heap.size < w.heap.size + 2 by omega) _) (a := ⟨w.heap.size, 7, none⟩) (show w.heap.size < w.heap.size + 2 by omega) _) (a := ⟨w.heap.size, 8, none⟩) (show w.heap.size < w.heap.size + 2 by omega) _) (a := ⟨w.heap.size, 9, none⟩) (show w.heap.size < w.heap.size + 2 by omega) _) (a := ⟨w.heap.size, 10, none⟩) (show w.heap.size < w.heap.size + 2 by omega) _) (a := ⟨w.heap.size, 11, none⟩) (show w.heap.size < w.heap.size + 2 by omega) _) (a := ⟨w.heap.size, 12, none⟩) (show w.heap.size < w.heap.size + 2 by omega) _) (a := ⟨w.heap.size, 13, none⟩) (show w.heap.size < w.heap.size + 2 by omega) _)
  rw [hw9] at hwh hbb
  rw [hw9]
  obtain ⟨he0, he1, he2, he3, he4, he5, he6, he7, he8, he9, he10, he11, he12, he13⟩ := cells14 hwh
  exact bodyPost_ret (v := .tuple #[.agg #[.int .i64 43, .int .i64 0, .slice none 0 0, .slice none 0 0, .int .i64 0, .int .i64 0, .int .u16 0, .int .u16 0, .int .u16 0, .int .i64 z2, .int .i64 z3, .bool false, .int .i64 z5, .slice OA ol oc], .bool ok]) (by simp [results, Try.results74, go_sem, he0, he1, he2, he3, he4, he5, he6, he7, he8, he9, he10, he11, he12, he13]) rfl ⟨OA, ol, oc, ok, rfl, hbb, fun os h => ⟨(H1.out os h).1, (H1.out os h).2.1, hoo os (hxo os (H1.out os h).2.2)⟩, H2.out⟩

end Go.Proofs.Ytokljdkbheogoaa

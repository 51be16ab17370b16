/- Package ask: fields, of lists. -/
import Derived.Test.YtebpilfogdenjaaTail
import Derived.Test.YtebpilfogdenjaaAskBox
namespace Go.Proofs.Ytebpilfogdenjaa
open Go.ChangeShapes Go.WideShapes Go.ChangeAt Go.RowKit
set_option linter.unusedVariables false
set_option linter.unusedSimpArgs false

set_option maxRecDepth 100000 in
set_option maxHeartbeats 600000 in
theorem pfields_few_15 (A : Option Addr) (n c : Nat) (zs : List Int) (w : World) (hr : Row .u8 w w.heap.size A n zs) (hx : Bytes8 zs) (hn : n ≤ 1000) (h1 : 1 ≤ n) (h0 : zs.getD 0 0 = 15) (hl : n ≤ 5) :
    Calls Try.prog 23 #[.slice A n c] w fun e w' => e = .returned (.tuple #[.agg #[.int .i64 15, .int .i64 0, .int .i64 0, .int .u16 0, .int .u16 0, .int .u16 0, .slice none 0 0, .slice none 0 0, .int .i64 0, .int .i64 0, .int .i64 0, .int .i64 0], .bool false]) ∧ Below w.heap.size w w' := by
  have hl' : ¬ (n : Int) = 0 := by omega
  obtain ⟨b, off, rfl, hb, hcell⟩ := hr.2 (by omega)
  have hc0 : (w.alloc (.cells #[.int .i64 0, .int .i64 0, .int .i64 0, .int .u16 0, .int .u16 0, .int .u16 0, .slice none 0 0, .slice none 0 0, .int .i64 0, .int .i64 0, .int .i64 0, .int .i64 0] 30)).cell? ⟨b, off, none⟩ = some (.int .u8 15) := by
    rw [World.cell?_alloc_lt w _ ⟨b, off, none⟩ hb]
    have := hcell 0 (by omega)
    rw [Nat.add_zero, h0] at this
    exact this
  have hn0 : (0 : Int) < (n : Int) := by omega
  have hkw : Below w.heap.size w ((w.alloc (.cells #[.int .i64 0, .int .i64 0, .int .i64 0, .int .u16 0, .int .u16 0, .int .u16 0, .slice none 0 0, .slice none 0 0, .int .i64 0, .int .i64 0, .int .i64 0, .int .i64 0] 30)).alloc (.cells #[.int .i64 15, .int .i64 0, .int .i64 0, .int .u16 0, .int .u16 0, .int .u16 0, .slice none 0 0, .slice none 0 0, .int .i64 0, .int .i64 0, .int .i64 0, .int .i64 0] 30)) := ((Below.refl _ _).alloc (Nat.le_refl _) _).alloc (by simp) _
  have HR := Lib.hid ((hr.below hkw).more hkw.size)
  have HX := Lib.hid hx
  clear hr hx hcell hkw
  have H0 := Lib.hid h0
  clear h0
  go_enter Try.func23, Try.ntmps23
  go_wp2_with (go_at_call 42; refine (psize_few _ n c zs _ 15 5 HR.out hn h1 H0.out (by omega) hl).mono ?_; rintro e w' ⟨rfl, rfl⟩)
  exact bodyPost_ret (v := .tuple #[.agg #[.int .i64 15, .int .i64 0, .int .i64 0, .int .u16 0, .int .u16 0, .int .u16 0, .slice none 0 0, .slice none 0 0, .int .i64 0, .int .i64 0, .int .i64 0, .int .i64 0], .bool false]) (by simp [results, Try.results23, go_sem]) rfl ⟨rfl, ((Below.refl _ _).alloc (Nat.le_refl _) _).alloc (by simp) _⟩

set_option maxRecDepth 100000 in
set_option maxHeartbeats 600000 in
theorem pfields_len_15 (A : Option Addr) (n c : Nat) (zs : List Int) (w : World) (hr : Row .u8 w w.heap.size A n zs) (hx : Bytes8 zs) (hn : n ≤ 1000) (h1 : 1 ≤ n) (u : Int) (h0 : zs.getD 0 0 = 15) (hl : 5 < n) (hu : zs.getD 5 0 = u) (hq : ¬ (n : Int) = 6 + u) :
    Calls Try.prog 23 #[.slice A n c] w fun e w' => e = .returned (.tuple #[.agg #[.int .i64 15, .int .i64 0, .int .i64 0, .int .u16 0, .int .u16 0, .int .u16 0, .slice none 0 0, .slice none 0 0, .int .i64 0, .int .i64 0, .int .i64 0, .int .i64 0], .bool false]) ∧ Below w.heap.size w w' := by
  obtain ⟨lou, hiu⟩ := hx.at_ 5
  change 0 ≤ zs.getD 5 0 at lou
  change zs.getD 5 0 ≤ 255 at hiu
  rw [hu] at lou hiu
  obtain ⟨b, off, rfl, hb, hcell⟩ := hr.2 (by omega)
  have hc0 : (w.alloc (.cells #[.int .i64 0, .int .i64 0, .int .i64 0, .int .u16 0, .int .u16 0, .int .u16 0, .slice none 0 0, .slice none 0 0, .int .i64 0, .int .i64 0, .int .i64 0, .int .i64 0] 30)).cell? ⟨b, off, none⟩ = some (.int .u8 15) := by
    rw [World.cell?_alloc_lt w _ ⟨b, off, none⟩ hb]
    have := hcell 0 (by omega)
    rw [Nat.add_zero, h0] at this
    exact this
  have hn0 : (0 : Int) < (n : Int) := by omega
  have hkw : Below w.heap.size w ((w.alloc (.cells #[.int .i64 0, .int .i64 0, .int .i64 0, .int .u16 0, .int .u16 0, .int .u16 0, .slice none 0 0, .slice none 0 0, .int .i64 0, .int .i64 0, .int .i64 0, .int .i64 0] 30)).alloc (.cells #[.int .i64 15, .int .i64 0, .int .i64 0, .int .u16 0, .int .u16 0, .int .u16 0, .slice none 0 0, .slice none 0 0, .int .i64 0, .int .i64 0, .int .i64 0, .int .i64 0] 30)) := ((Below.refl _ _).alloc (Nat.le_refl _) _).alloc (by simp) _
  have HR := Lib.hid ((hr.below hkw).more hkw.size)
  have HX := Lib.hid hx
  clear hr hx hcell hkw
  have H0 := Lib.hid h0
  have HU := Lib.hid hu
  clear h0 hu
  go_enter Try.func23, Try.ntmps23
  go_wp2_with (go_at_call 42; refine (psize_many _ n c zs _ 15 5 u HR.out HX.out hn h1 H0.out (by omega) hl HU.out).mono ?_; rintro e w' ⟨rfl, rfl⟩; rw [show ((5 : Nat) : Int) + 1 + u = 6 + u by omega])
  exact bodyPost_ret (v := .tuple #[.agg #[.int .i64 15, .int .i64 0, .int .i64 0, .int .u16 0, .int .u16 0, .int .u16 0, .slice none 0 0, .slice none 0 0, .int .i64 0, .int .i64 0, .int .i64 0, .int .i64 0], .bool false]) (by simp [results, Try.results23, go_sem]) rfl ⟨rfl, ((Below.refl _ _).alloc (Nat.le_refl _) _).alloc (by simp) _⟩

set_option maxRecDepth 100000 in
set_option maxHeartbeats 600000 in
theorem pfields_few_16 (A : Option Addr) (n c : Nat) (zs : List Int) (w : World) (hr : Row .u8 w w.heap.size A n zs) (hx : Bytes8 zs) (hn : n ≤ 1000) (h1 : 1 ≤ n) (h0 : zs.getD 0 0 = 16) (hl : n ≤ 5) :
    Calls Try.prog 23 #[.slice A n c] w fun e w' => e = .returned (.tuple #[.agg #[.int .i64 16, .int .i64 0, .int .i64 0, .int .u16 0, .int .u16 0, .int .u16 0, .slice none 0 0, .slice none 0 0, .int .i64 0, .int .i64 0, .int .i64 0, .int .i64 0], .bool false]) ∧ Below w.heap.size w w' := by
  have hl' : ¬ (n : Int) = 0 := by omega
  obtain ⟨b, off, rfl, hb, hcell⟩ := hr.2 (by omega)
  have hc0 : (w.alloc (.cells #[.int .i64 0, .int .i64 0, .int .i64 0, .int .u16 0, .int .u16 0, .int .u16 0, .slice none 0 0, .slice none 0 0, .int .i64 0, .int .i64 0, .int .i64 0, .int .i64 0] 30)).cell? ⟨b, off, none⟩ = some (.int .u8 16) := by
    rw [World.cell?_alloc_lt w _ ⟨b, off, none⟩ hb]
    have := hcell 0 (by omega)
    rw [Nat.add_zero, h0] at this
    exact this
  have hn0 : (0 : Int) < (n : Int) := by omega
  have hkw : Below w.heap.size w ((w.alloc (.cells #[.int .i64 0, .int .i64 0, .int .i64 0, .int .u16 0, .int .u16 0, .int .u16 0, .slice none 0 0, .slice none 0 0, .int .i64 0, .int .i64 0, .int .i64 0, .int .i64 0] 30)).alloc (.cells #[.int .i64 16, .int .i64 0, .int .i64 0, .int .u16 0, .int .u16 0, .int .u16 0, .slice none 0 0, .slice none 0 0, .int .i64 0, .int .i64 0, .int .i64 0, .int .i64 0] 30)) := ((Below.refl _ _).alloc (Nat.le_refl _) _).alloc (by simp) _
  have HR := Lib.hid ((hr.below hkw).more hkw.size)
  have HX := Lib.hid hx
  clear hr hx hcell hkw
  have H0 := Lib.hid h0
  clear h0
  go_enter Try.func23, Try.ntmps23
  go_wp2_with (go_at_call 42; refine (psize_few _ n c zs _ 16 5 HR.out hn h1 H0.out (by omega) hl).mono ?_; rintro e w' ⟨rfl, rfl⟩)
  exact bodyPost_ret (v := .tuple #[.agg #[.int .i64 16, .int .i64 0, .int .i64 0, .int .u16 0, .int .u16 0, .int .u16 0, .slice none 0 0, .slice none 0 0, .int .i64 0, .int .i64 0, .int .i64 0, .int .i64 0], .bool false]) (by simp [results, Try.results23, go_sem]) rfl ⟨rfl, ((Below.refl _ _).alloc (Nat.le_refl _) _).alloc (by simp) _⟩

set_option maxRecDepth 100000 in
set_option maxHeartbeats 600000 in
theorem pfields_len_16 (A : Option Addr) (n c : Nat) (zs : List Int) (w : World) (hr : Row .u8 w w.heap.size A n zs) (hx : Bytes8 zs) (hn : n ≤ 1000) (h1 : 1 ≤ n) (u : Int) (h0 : zs.getD 0 0 = 16) (hl : 5 < n) (hu : zs.getD 5 0 = u) (hq : ¬ (n : Int) = 6 + u) :
    Calls Try.prog 23 #[.slice A n c] w fun e w' => e = .returned (.tuple #[.agg #[.int .i64 16, .int .i64 0, .int .i64 0, .int .u16 0, .int .u16 0, .int .u16 0, .slice none 0 0, .slice none 0 0, .int .i64 0, .int .i64 0, .int .i64 0, .int .i64 0], .bool false]) ∧ Below w.heap.size w w' := by
  obtain ⟨lou, hiu⟩ := hx.at_ 5
  change 0 ≤ zs.getD 5 0 at lou
  change zs.getD 5 0 ≤ 255 at hiu
  rw [hu] at lou hiu
  obtain ⟨b, off, rfl, hb, hcell⟩ := hr.2 (by omega)
  have hc0 : (w.alloc (.cells #[.int .i64 0, .int .i64 0, .int .i64 0, .int .u16 0, .int .u16 0, .int .u16 0, .slice none 0 0, .slice none 0 0, .int .i64 0, .int .i64 0, .int .i64 0, .int .i64 0] 30)).cell? ⟨b, off, none⟩ = some (.int .u8 16) := by
    rw [World.cell?_alloc_lt w _ ⟨b, off, none⟩ hb]
    have := hcell 0 (by omega)
    rw [Nat.add_zero, h0] at this
    exact this
  have hn0 : (0 : Int) < (n : Int) := by omega
  have hkw : Below w.heap.size w ((w.alloc (.cells #[.int .i64 0, .int .i64 0, .int .i64 0, .int .u16 0, .int .u16 0, .int .u16 0, .slice none 0 0, .slice none 0 0, .int .i64 0, .int .i64 0, .int .i64 0, .int .i64 0] 30)).alloc (.cells #[.int .i64 16, .int .i64 0, .int .i64 0, .int .u16 0, .int .u16 0, .int .u16 0, .slice none 0 0, .slice none 0 0, .int .i64 0, .int .i64 0, .int .i64 0, .int .i64 0] 30)) := ((Below.refl _ _).alloc (Nat.le_refl _) _).alloc (by simp) _
  have HR := Lib.hid ((hr.below hkw).more hkw.size)
  have HX := Lib.hid hx
  clear hr hx hcell hkw
  have H0 := Lib.hid h0
  have HU := Lib.hid hu
  clear h0 hu
  go_enter Try.func23, Try.ntmps23
  go_wp2_with (go_at_call 42; refine (psize_many _ n c zs _ 16 5 u HR.out HX.out hn h1 H0.out (by omega) hl HU.out).mono ?_; rintro e w' ⟨rfl, rfl⟩; rw [show ((5 : Nat) : Int) + 1 + u = 6 + u by omega])
  exact bodyPost_ret (v := .tuple #[.agg #[.int .i64 16, .int .i64 0, .int .i64 0, .int .u16 0, .int .u16 0, .int .u16 0, .slice none 0 0, .slice none 0 0, .int .i64 0, .int .i64 0, .int .i64 0, .int .i64 0], .bool false]) (by simp [results, Try.results23, go_sem]) rfl ⟨rfl, ((Below.refl _ _).alloc (Nat.le_refl _) _).alloc (by simp) _⟩

set_option maxRecDepth 100000 in
set_option maxHeartbeats 600000 in
theorem pfields_few_23 (A : Option Addr) (n c : Nat) (zs : List Int) (w : World) (hr : Row .u8 w w.heap.size A n zs) (hx : Bytes8 zs) (hn : n ≤ 1000) (h1 : 1 ≤ n) (h0 : zs.getD 0 0 = 23) (hl : n ≤ 9) :
    Calls Try.prog 23 #[.slice A n c] w fun e w' => e = .returned (.tuple #[.agg #[.int .i64 23, .int .i64 0, .int .i64 0, .int .u16 0, .int .u16 0, .int .u16 0, .slice none 0 0, .slice none 0 0, .int .i64 0, .int .i64 0, .int .i64 0, .int .i64 0], .bool false]) ∧ Below w.heap.size w w' := by
  have hl' : ¬ (n : Int) = 0 := by omega
  obtain ⟨b, off, rfl, hb, hcell⟩ := hr.2 (by omega)
  have hc0 : (w.alloc (.cells #[.int .i64 0, .int .i64 0, .int .i64 0, .int .u16 0, .int .u16 0, .int .u16 0, .slice none 0 0, .slice none 0 0, .int .i64 0, .int .i64 0, .int .i64 0, .int .i64 0] 30)).cell? ⟨b, off, none⟩ = some (.int .u8 23) := by
    rw [World.cell?_alloc_lt w _ ⟨b, off, none⟩ hb]
    have := hcell 0 (by omega)
    rw [Nat.add_zero, h0] at this
    exact this
  have hn0 : (0 : Int) < (n : Int) := by omega
  have hkw : Below w.heap.size w ((w.alloc (.cells #[.int .i64 0, .int .i64 0, .int .i64 0, .int .u16 0, .int .u16 0, .int .u16 0, .slice none 0 0, .slice none 0 0, .int .i64 0, .int .i64 0, .int .i64 0, .int .i64 0] 30)).alloc (.cells #[.int .i64 23, .int .i64 0, .int .i64 0, .int .u16 0, .int .u16 0, .int .u16 0, .slice none 0 0, .slice none 0 0, .int .i64 0, .int .i64 0, .int .i64 0, .int .i64 0] 30)) := ((Below.refl _ _).alloc (Nat.le_refl _) _).alloc (by simp) _
  have HR := Lib.hid ((hr.below hkw).more hkw.size)
  have HX := Lib.hid hx
  clear hr hx hcell hkw
  have H0 := Lib.hid h0
  clear h0
  go_enter Try.func23, Try.ntmps23
  go_wp2_with (go_at_call 42; refine (psize_few _ n c zs _ 23 9 HR.out hn h1 H0.out (by omega) hl).mono ?_; rintro e w' ⟨rfl, rfl⟩)
  exact bodyPost_ret (v := .tuple #[.agg #[.int .i64 23, .int .i64 0, .int .i64 0, .int .u16 0, .int .u16 0, .int .u16 0, .slice none 0 0, .slice none 0 0, .int .i64 0, .int .i64 0, .int .i64 0, .int .i64 0], .bool false]) (by simp [results, Try.results23, go_sem]) rfl ⟨rfl, ((Below.refl _ _).alloc (Nat.le_refl _) _).alloc (by simp) _⟩

set_option maxRecDepth 100000 in
set_option maxHeartbeats 600000 in
theorem pfields_len_23 (A : Option Addr) (n c : Nat) (zs : List Int) (w : World) (hr : Row .u8 w w.heap.size A n zs) (hx : Bytes8 zs) (hn : n ≤ 1000) (h1 : 1 ≤ n) (u : Int) (h0 : zs.getD 0 0 = 23) (hl : 9 < n) (hu : zs.getD 9 0 = u) (hq : ¬ (n : Int) = 10 + u) :
    Calls Try.prog 23 #[.slice A n c] w fun e w' => e = .returned (.tuple #[.agg #[.int .i64 23, .int .i64 0, .int .i64 0, .int .u16 0, .int .u16 0, .int .u16 0, .slice none 0 0, .slice none 0 0, .int .i64 0, .int .i64 0, .int .i64 0, .int .i64 0], .bool false]) ∧ Below w.heap.size w w' := by
  obtain ⟨lou, hiu⟩ := hx.at_ 9
  change 0 ≤ zs.getD 9 0 at lou
  change zs.getD 9 0 ≤ 255 at hiu
  rw [hu] at lou hiu
  obtain ⟨b, off, rfl, hb, hcell⟩ := hr.2 (by omega)
  have hc0 : (w.alloc (.cells #[.int .i64 0, .int .i64 0, .int .i64 0, .int .u16 0, .int .u16 0, .int .u16 0, .slice none 0 0, .slice none 0 0, .int .i64 0, .int .i64 0, .int .i64 0, .int .i64 0] 30)).cell? ⟨b, off, none⟩ = some (.int .u8 23) := by
    rw [World.cell?_alloc_lt w _ ⟨b, off, none⟩ hb]
    have := hcell 0 (by omega)
    rw [Nat.add_zero, h0] at this
    exact this
  have hn0 : (0 : Int) < (n : Int) := by omega
  have hkw : Below w.heap.size w ((w.alloc (.cells #[.int .i64 0, .int .i64 0, .int .i64 0, .int .u16 0, .int .u16 0, .int .u16 0, .slice none 0 0, .slice none 0 0, .int .i64 0, .int .i64 0, .int .i64 0, .int .i64 0] 30)).alloc (.cells #[.int .i64 23, .int .i64 0, .int .i64 0, .int .u16 0, .int .u16 0, .int .u16 0, .slice none 0 0, .slice none 0 0, .int .i64 0, .int .i64 0, .int .i64 0, .int .i64 0] 30)) := ((Below.refl _ _).alloc (Nat.le_refl _) _).alloc (by simp) _
  have HR := Lib.hid ((hr.below hkw).more hkw.size)
  have HX := Lib.hid hx
  clear hr hx hcell hkw
  have H0 := Lib.hid h0
  have HU := Lib.hid hu
  clear h0 hu
  go_enter Try.func23, Try.ntmps23
  go_wp2_with (go_at_call 42; refine (psize_many _ n c zs _ 23 9 u HR.out HX.out hn h1 H0.out (by omega) hl HU.out).mono ?_; rintro e w' ⟨rfl, rfl⟩; rw [show ((9 : Nat) : Int) + 1 + u = 10 + u by omega])
  exact bodyPost_ret (v := .tuple #[.agg #[.int .i64 23, .int .i64 0, .int .i64 0, .int .u16 0, .int .u16 0, .int .u16 0, .slice none 0 0, .slice none 0 0, .int .i64 0, .int .i64 0, .int .i64 0, .int .i64 0], .bool false]) (by simp [results, Try.results23, go_sem]) rfl ⟨rfl, ((Below.refl _ _).alloc (Nat.le_refl _) _).alloc (by simp) _⟩

set_option maxRecDepth 100000 in
set_option maxHeartbeats 600000 in
theorem pfields_yes_15a (A : Option Addr) (n c : Nat) (zs : List Int) (w : World) (hr : Row .u8 w w.heap.size A n zs) (hx : Bytes8 zs) (hn : n ≤ 1000) (h1 : 1 ≤ n) (u p q : Int) (h0 : zs.getD 0 0 = 15) (hl : 5 < n) (hc : n ≤ c) (hcap : ¬ c = 6) (hu : zs.getD 5 0 = u) (hq : (n : Int) = 6 + u) (hp : gotW zs n 1 = p) (hq : gotW zs n 3 = q) (k : Nat) (hk : q = (k : Int)) (hkn : u = ((nb k : Nat) : Int)) :
    Calls Try.prog 23 #[.slice A n c] w fun e w' => ∃ G g, e = .returned (.tuple #[.agg #[.int .i64 15, .int .i64 p, .int .i64 q, .int .u16 0, .int .u16 0, .int .u16 0, .slice G k g, .slice none 0 0, .int .i64 0, .int .i64 0, .int .i64 0, .int .i64 0], .bool true]) ∧ w'.ownsRow w.heap.size 4 1 (.slice G k g) k ((unb (zs.drop 6) k).map Value.bool) ∧ Below w.heap.size w w' := by
  obtain ⟨lop, hip⟩ := gotW_bounds hx n 1
  rw [hp] at lop hip
  obtain ⟨loq, hiq⟩ := gotW_bounds hx n 3
  rw [hq] at loq hiq
  obtain ⟨lou, hiu⟩ := hx.at_ 5
  change 0 ≤ zs.getD 5 0 at lou
  change zs.getD 5 0 ≤ 255 at hiu
  rw [hu] at lou hiu
  obtain ⟨t, ht⟩ : ∃ t : Nat, (t : Int) = u := ⟨u.toNat, by omega⟩
  subst ht
  have hnt : n = 6 + t := by omega
  subst hnt
  have hct : 6 < c := by omega
  obtain ⟨b, off, rfl, hb, hcell⟩ := hr.2 (by omega)
  have hc0 : (w.alloc (.cells #[.int .i64 0, .int .i64 0, .int .i64 0, .int .u16 0, .int .u16 0, .int .u16 0, .slice none 0 0, .slice none 0 0, .int .i64 0, .int .i64 0, .int .i64 0, .int .i64 0] 30)).cell? ⟨b, off, none⟩ = some (.int .u8 15) := by
    rw [World.cell?_alloc_lt w _ ⟨b, off, none⟩ hb]
    have := hcell 0 (by omega)
    rw [Nat.add_zero, h0] at this
    exact this
  have hn0 : (0 : Int) < (((6 + t) : Nat) : Int) := by omega
  have hkw : Below w.heap.size w ((w.alloc (.cells #[.int .i64 0, .int .i64 0, .int .i64 0, .int .u16 0, .int .u16 0, .int .u16 0, .slice none 0 0, .slice none 0 0, .int .i64 0, .int .i64 0, .int .i64 0, .int .i64 0] 30)).alloc (.cells #[.int .i64 15, .int .i64 0, .int .i64 0, .int .u16 0, .int .u16 0, .int .u16 0, .slice none 0 0, .slice none 0 0, .int .i64 0, .int .i64 0, .int .i64 0, .int .i64 0] 30)) := ((Below.refl _ _).alloc (Nat.le_refl _) _).alloc (by simp) _
  have HR := Lib.hid ((hr.below hkw).more hkw.size)
  have HX := Lib.hid hx
  have HKW := Lib.hid hkw
  have HG4 : Hid (WholeV ((w.alloc (.cells #[.int .i64 0, .int .i64 0, .int .i64 0, .int .u16 0, .int .u16 0, .int .u16 0, .slice none 0 0, .slice none 0 0, .int .i64 0, .int .i64 0, .int .i64 0, .int .i64 0] 30)).alloc (.cells #[.int .i64 15, .int .i64 0, .int .i64 0, .int .u16 0, .int .u16 0, .int .u16 0, .slice none 0 0, .slice none 0 0, .int .i64 0, .int .i64 0, .int .i64 0, .int .i64 0] 30)) (w.heap.size + 1) 30 [.int .i64 15, .int .i64 0, .int .i64 0, .int .u16 0, .int .u16 0, .int .u16 0, .slice none 0 0, .slice none 0 0, .int .i64 0, .int .i64 0, .int .i64 0, .int .i64 0]) := by
    have h := heap_alloc_new (w.alloc (.cells #[.int .i64 0, .int .i64 0, .int .i64 0, .int .u16 0, .int .u16 0, .int .u16 0, .slice none 0 0, .slice none 0 0, .int .i64 0, .int .i64 0, .int .i64 0, .int .i64 0] 30)) (.cells #[.int .i64 15, .int .i64 0, .int .i64 0, .int .u16 0, .int .u16 0, .int .u16 0, .slice none 0 0, .slice none 0 0, .int .i64 0, .int .i64 0, .int .i64 0, .int .i64 0] 30)
    rwa [show (w.alloc (.cells #[.int .i64 0, .int .i64 0, .int .i64 0, .int .u16 0, .int .u16 0, .int .u16 0, .slice none 0 0, .slice none 0 0, .int .i64 0, .int .i64 0, .int .i64 0, .int .i64 0] 30)).heap.size = w.heap.size + 1 by simp] at h
  have HG2 : Hid (WholeV ((w.alloc (.cells #[.int .i64 0, .int .i64 0, .int .i64 0, .int .u16 0, .int .u16 0, .int .u16 0, .slice none 0 0, .slice none 0 0, .int .i64 0, .int .i64 0, .int .i64 0, .int .i64 0] 30)).alloc (.cells #[.int .i64 15, .int .i64 0, .int .i64 0, .int .u16 0, .int .u16 0, .int .u16 0, .slice none 0 0, .slice none 0 0, .int .i64 0, .int .i64 0, .int .i64 0, .int .i64 0] 30)) w.heap.size 30 [.int .i64 0, .int .i64 0, .int .i64 0, .int .u16 0, .int .u16 0, .int .u16 0, .slice none 0 0, .slice none 0 0, .int .i64 0, .int .i64 0, .int .i64 0, .int .i64 0]) := by
    have h : WholeV (w.alloc (.cells #[.int .i64 0, .int .i64 0, .int .i64 0, .int .u16 0, .int .u16 0, .int .u16 0, .slice none 0 0, .slice none 0 0, .int .i64 0, .int .i64 0, .int .i64 0, .int .i64 0] 30)) w.heap.size 30 [.int .i64 0, .int .i64 0, .int .i64 0, .int .u16 0, .int .u16 0, .int .u16 0, .slice none 0 0, .slice none 0 0, .int .i64 0, .int .i64 0, .int .i64 0, .int .i64 0] := heap_alloc_new w _
    exact h.below ((Below.refl _ _).alloc (Nat.le_refl _) _) (by simp)
  have HT : Hid (∀ X, Below w.heap.size w X → Row .u8 X X.heap.size (some ⟨b, off + 6, none⟩) t (zs.drop 6)) := fun X hX => ((hr.below hX).more hX.size).tail rfl
  clear hr hx hcell hkw
  have H0 := Lib.hid h0
  have HU := Lib.hid hu
  clear h0 hu hq
  have Hp := Lib.hid hp
  have Hq := Lib.hid hq
  clear hp hq
  have HK := Lib.hid hk
  have HKN := Lib.hid hkn
  have hkb : k ≤ 2100 := by unfold nb at hkn; omega
  clear hk hkn
  go_enter Try.func23, Try.ntmps23
  go_wp2_with (first
    | (go_at_call 42; refine (psize_many _ (6 + t) c zs _ 15 5 (t : Int) HR.out HX.out (by omega) (by omega) H0.out (by omega) (by omega) HU.out).mono ?_; rintro e w' ⟨rfl, rfl⟩; rw [show ((5 : Nat) : Int) + 1 + (t : Int) = (((6 + t) : Nat) : Int) by omega])
    | (go_at_call 43; refine (pair_other _ _ (by omega)).mono ?_; rintro e w' ⟨rfl, rfl⟩)
    | (go_at_call 44; (with_reducible refine (pnumber_any (some ⟨b, off, none⟩) (6 + t) c zs 1 p _ Hp.out (HR.out.drewN _) HX.out (by omega)).mono ?_); rintro e w' ⟨rfl, d1, rfl⟩)
    | (go_at_call 44; (with_reducible refine (pnumber_any (some ⟨b, off, none⟩) (6 + t) c zs 1 p _ Hp.out HR.out HX.out (by omega)).mono ?_); rintro e w' ⟨rfl, d1, rfl⟩)
    | (go_at_call 44; (with_reducible refine (pnumber_any (some ⟨b, off, none⟩) (6 + t) c zs 3 q _ Hq.out (HR.out.drewN _) HX.out (by omega)).mono ?_); rintro e w' ⟨rfl, d3, rfl⟩)
    | (go_at_call 44; (with_reducible refine (pnumber_any (some ⟨b, off, none⟩) (6 + t) c zs 3 q _ Hq.out HR.out HX.out (by omega)).mono ?_); rintro e w' ⟨rfl, d3, rfl⟩))
  obtain ⟨w3, hw3⟩ : ∃ w3, (((((w.alloc (.cells #[.int .i64 0, .int .i64 0, .int .i64 0, .int .u16 0, .int .u16 0, .int .u16 0, .slice none 0 0, .slice none 0 0, .int .i64 0, .int .i64 0, .int .i64 0, .int .i64 0] 30)).alloc (.cells #[.int .i64 15, .int .i64 0, .int .i64 0, .int .u16 0, .int .u16 0, .int .u16 0, .slice none 0 0, .slice none 0 0, .int .i64 0, .int .i64 0, .int .i64 0, .int .i64 0] 30)).drewN (d1 + d3)).setCell ⟨w.heap.size + 1, 1, none⟩ (.int .i64 p)).setCell ⟨w.heap.size + 1, 2, none⟩ (.int .i64 q)) = w3 := ⟨_, rfl⟩
  have hxa : Below (w.heap.size + 1) ((w.alloc (.cells #[.int .i64 0, .int .i64 0, .int .i64 0, .int .u16 0, .int .u16 0, .int .u16 0, .slice none 0 0, .slice none 0 0, .int .i64 0, .int .i64 0, .int .i64 0, .int .i64 0] 30)).alloc (.cells #[.int .i64 15, .int .i64 0, .int .i64 0, .int .u16 0, .int .u16 0, .int .u16 0, .slice none 0 0, .slice none 0 0, .int .i64 0, .int .i64 0, .int .i64 0, .int .i64 0] 30)) w3 := by rw [← hw3]; exact (((below_drewN (Below.refl (w.heap.size + 1) _) (d1 + d3)).setCell (p := ⟨w.heap.size + 1, 1, none⟩) (Nat.le_refl _) (.int .i64 p)).setCell (p := ⟨w.heap.size + 1, 2, none⟩) (Nat.le_refl _) (.int .i64 q))
  have ha4 : WholeV w3 (w.heap.size + 1) 30 [.int .i64 15, .int .i64 p, .int .i64 q, .int .u16 0, .int .u16 0, .int .u16 0, .slice none 0 0, .slice none 0 0, .int .i64 0, .int .i64 0, .int .i64 0, .int .i64 0] := by rw [← hw3]; exact (((HG4.out.drewN (d1 + d3)).set 1 (.int .i64 p)).set 2 (.int .i64 q))
  have ha2 : WholeV w3 w.heap.size 30 [.int .i64 0, .int .i64 0, .int .i64 0, .int .u16 0, .int .u16 0, .int .u16 0, .slice none 0 0, .slice none 0 0, .int .i64 0, .int .i64 0, .int .i64 0, .int .i64 0] := HG2.out.below hxa (Nat.lt_succ_self _)
  have hab : Below w.heap.size w w3 := HKW.out.trans (hxa.mono (Nat.le_succ _))
  have hz3 : w.heap.size + 2 ≤ w3.heap.size := ha4.lt
  rw [hw3]
  have HA4 := Lib.hid ha4
  have HA2 := Lib.hid ha2
  have HAB := Lib.hid hab
  have HT3 := Lib.hid (HT.out _ hab)
  obtain ⟨hq0, hq1, hq2, hq3, hq4, hq5, hq6, hq7, hq8, hq9, hq10, hq11⟩ := cells12 ha4
  clear hw3 hxa ha4 ha2 hab HG4 HG2 HKW
  go_region_with (first
      | (go_at_call 46
         (with_reducible refine (punpack_at _ t _ k q (zs.drop 6) _ (by have := HKN.out; omega) HK.out (HT3.out.drewN 1) (HX.out.drop 6) (by omega)).mono ?_)
         rintro e w5 ⟨rfl, ho5, hb5⟩
         have hb5' : Below w3.heap.size w3 w5 := below_from (d := 1) hb5
         have h1 := HA4.out.below hb5' (show w.heap.size + 1 < w3.heap.size by omega)
         have h0 := HA2.out.below hb5' (show w.heap.size < w3.heap.size by omega)
         have HB5 : Hid (Below w.heap.size w w5) := HAB.out.trans (hb5'.mono HAB.out.size)
         obtain ⟨hs0, hs1, hs2, hs3, hs4, hs5, hs6, hs7, hs8, hs9, hs10, hs11⟩ := cells12 h1
         obtain ⟨hp0, hp1, hp2, hp3, hp4, hp5, hp6, hp7, hp8, hp9, hp10, hp11⟩ := cells12 h0
         have hf0 := h1.frozen 0
         have hg0 := h0.frozen 0
         have hf1 := h1.frozen 1
         have hg1 := h0.frozen 1
         have hf2 := h1.frozen 2
         have hg2 := h0.frozen 2
         have hf3 := h1.frozen 3
         have hg3 := h0.frozen 3
         have hf4 := h1.frozen 4
         have hg4 := h0.frozen 4
         have hf5 := h1.frozen 5
         have hg5 := h0.frozen 5
         have hf6 := h1.frozen 6
         have hg6 := h0.frozen 6
         have hf7 := h1.frozen 7
         have hg7 := h0.frozen 7
         have hf8 := h1.frozen 8
         have hg8 := h0.frozen 8
         have hf9 := h1.frozen 9
         have hg9 := h0.frozen 9
         have hf10 := h1.frozen 10
         have hg10 := h0.frozen 10
         have hf11 := h1.frozen 11
         have hg11 := h0.frozen 11
         have hz5 : w.heap.size + 2 ≤ w5.heap.size := h1.lt
         have HH1 := Lib.hid h1
         have HH0 := Lib.hid h0
         have HO5 := Lib.hid ho5
         clear h1 h0 hb5 hb5' ho5))
  all_goals
    go_wp2
    obtain ⟨X, hX⟩ : ∃ X, (w5.setCell ⟨w.heap.size + 1, 6, none⟩ (.slice (some ⟨w3.heap.size, 0, none⟩) k k)) = X := ⟨_, rfl⟩
    have hx0 : WholeV X w.heap.size 30 [.int .i64 0, .int .i64 0, .int .i64 0, .int .u16 0, .int .u16 0, .int .u16 0, .slice none 0 0, .slice none 0 0, .int .i64 0, .int .i64 0, .int .i64 0, .int .i64 0] := by rw [← hX]; exact HH0.out.below ((Below.refl (w.heap.size + 1) _).setCell (p := ⟨w.heap.size + 1, 6, none⟩) (Nat.le_refl _) _) (Nat.lt_succ_self _)
    have hxb : Below w.heap.size w X := by rw [← hX]; exact HB5.out.setCell (p := ⟨w.heap.size + 1, 6, none⟩) (Nat.le_succ _) _
    have hox : X.ownsRow w3.heap.size 4 1 (.slice (some ⟨w3.heap.size, 0, none⟩) k k) k ((unb (zs.drop 6) k).map Value.bool) := by rw [← hX]; exact own_far (own_of_whole HO5.out (Nat.le_refl _) (by simp [unb_length, wordsAt_length]) (by omega)) ⟨w.heap.size + 1, 6, none⟩ (show w.heap.size + 1 < w3.heap.size by omega) _
    rw [hX]
    obtain ⟨w9, hw9⟩ : ∃ w9, ((((((((((((X.setCell ⟨w.heap.size, 0, none⟩ (.int .i64 15)).setCell ⟨w.heap.size, 1, none⟩ (.int .i64 p)).setCell ⟨w.heap.size, 2, none⟩ (.int .i64 q)).setCell ⟨w.heap.size, 3, none⟩ (.int .u16 0)).setCell ⟨w.heap.size, 4, none⟩ (.int .u16 0)).setCell ⟨w.heap.size, 5, none⟩ (.int .u16 0)).setCell ⟨w.heap.size, 6, none⟩ (.slice (some ⟨w3.heap.size, 0, none⟩) k k)).setCell ⟨w.heap.size, 7, none⟩ (.slice none 0 0)).setCell ⟨w.heap.size, 8, none⟩ (.int .i64 0)).setCell ⟨w.heap.size, 9, none⟩ (.int .i64 0)).setCell ⟨w.heap.size, 10, none⟩ (.int .i64 0)).setCell ⟨w.heap.size, 11, none⟩ (.int .i64 0)) = w9 := ⟨_, rfl⟩
    have hwh := all12 hx0 (.int .i64 15) (.int .i64 p) (.int .i64 q) (.int .u16 0) (.int .u16 0) (.int .u16 0) (.slice (some ⟨w3.heap.size, 0, none⟩) k k) (.slice none 0 0) (.int .i64 0) (.int .i64 0) (.int .i64 0) (.int .i64 0) rfl
    have hbb := bel12 hxb (.int .i64 15) (.int .i64 p) (.int .i64 q) (.int .u16 0) (.int .u16 0) (.int .u16 0) (.slice (some ⟨w3.heap.size, 0, none⟩) k k) (.slice none 0 0) (.int .i64 0) (.int .i64 0) (.int .i64 0) (.int .i64 0)
    have ho9 : w9.ownsRow w3.heap.size 4 1 (.slice (some ⟨w3.heap.size, 0, none⟩) k k) k ((unb (zs.drop 6) k).map Value.bool) := by rw [← hw9]; exact (own_far (own_far (own_far (own_far (own_far (own_far (own_far (own_far (own_far (own_far (own_far (own_far hox ⟨w.heap.size, 0, none⟩ (show w.heap.size < w3.heap.size by omega) (.int .i64 15)) ⟨w.heap.size, 1, none⟩ (show w.heap.size < w3.heap.size by omega) (.int .i64 p)) ⟨w.heap.size, 2, none⟩ (show w.heap.size < w3.heap.size by omega) (.int .i64 q)) ⟨w.heap.size, 3, none⟩ (show w.heap.size < w3.heap.size by omega) (.int .u16 0)) ⟨w.heap.size, 4, none⟩ (show w.heap.size < w3.heap.size by omega) (.int .u16 0)) ⟨w.heap.size, 5, none⟩ (show w.heap.size < w3.heap.size by omega) (.int .u16 0)) ⟨w.heap.size, 6, none⟩ (show w.heap.size < w3.heap.size by omega) (.slice (some ⟨w3.heap.size, 0, none⟩) k k)) ⟨w.heap.size, 7, none⟩ (show w.heap.size < w3.heap.size by omega) (.slice none 0 0)) ⟨w.heap.size, 8, none⟩ (show w.heap.size < w3.heap.size by omega) (.int .i64 0)) ⟨w.heap.size, 9, none⟩ (show w.heap.size < w3.heap.size by omega) (.int .i64 0)) ⟨w.heap.size, 10, none⟩ (show w.heap.size < w3.heap.size by omega) (.int .i64 0)) ⟨w.heap.size, 11, none⟩ (show w.heap.size < w3.heap.size by omega) (.int .i64 0))
    rw [hw9] at hwh hbb
    rw [hw9]
    obtain ⟨he0, he1, he2, he3, he4, he5, he6, he7, he8, he9, he10, he11⟩ := cells12 hwh
    exact bodyPost_ret (v := .tuple #[.agg #[.int .i64 15, .int .i64 p, .int .i64 q, .int .u16 0, .int .u16 0, .int .u16 0, .slice (some ⟨w3.heap.size, 0, none⟩) k k, .slice none 0 0, .int .i64 0, .int .i64 0, .int .i64 0, .int .i64 0], .bool true]) (by simp [results, Try.results23, go_sem, he0, he1, he2, he3, he4, he5, he6, he7, he8, he9, he10, he11]) rfl ⟨_, _, rfl, own_mono ho9 HAB.out.size, hbb⟩

set_option maxRecDepth 100000 in
set_option maxHeartbeats 600000 in
theorem pfields_yes_15b (A : Option Addr) (n c : Nat) (zs : List Int) (w : World) (hr : Row .u8 w w.heap.size A n zs) (hx : Bytes8 zs) (hn : n ≤ 1000) (h1 : 1 ≤ n) (u p q : Int) (h0 : zs.getD 0 0 = 15) (hl : 5 < n) (hc : n ≤ c) (hcap : c = 6) (hu : zs.getD 5 0 = u) (hq : (n : Int) = 6 + u) (hp : gotW zs n 1 = p) (hq : gotW zs n 3 = q) (k : Nat) (hk : q = (k : Int)) (hkn : u = ((nb k : Nat) : Int)) :
    Calls Try.prog 23 #[.slice A n c] w fun e w' => ∃ G g, e = .returned (.tuple #[.agg #[.int .i64 15, .int .i64 p, .int .i64 q, .int .u16 0, .int .u16 0, .int .u16 0, .slice G k g, .slice none 0 0, .int .i64 0, .int .i64 0, .int .i64 0, .int .i64 0], .bool true]) ∧ w'.ownsRow w.heap.size 4 1 (.slice G k g) k ((unb (zs.drop 6) k).map Value.bool) ∧ Below w.heap.size w w' := by
  obtain ⟨lop, hip⟩ := gotW_bounds hx n 1
  rw [hp] at lop hip
  obtain ⟨loq, hiq⟩ := gotW_bounds hx n 3
  rw [hq] at loq hiq
  obtain ⟨lou, hiu⟩ := hx.at_ 5
  change 0 ≤ zs.getD 5 0 at lou
  change zs.getD 5 0 ≤ 255 at hiu
  rw [hu] at lou hiu
  subst hcap
  obtain rfl : n = 6 := by omega
  obtain rfl : u = 0 := by omega
  obtain ⟨b, off, rfl, hb, hcell⟩ := hr.2 (by omega)
  have hc0 : (w.alloc (.cells #[.int .i64 0, .int .i64 0, .int .i64 0, .int .u16 0, .int .u16 0, .int .u16 0, .slice none 0 0, .slice none 0 0, .int .i64 0, .int .i64 0, .int .i64 0, .int .i64 0] 30)).cell? ⟨b, off, none⟩ = some (.int .u8 15) := by
    rw [World.cell?_alloc_lt w _ ⟨b, off, none⟩ hb]
    have := hcell 0 (by omega)
    rw [Nat.add_zero, h0] at this
    exact this
  have hn0 : (0 : Int) < ((6 : Nat) : Int) := by omega
  have hkw : Below w.heap.size w ((w.alloc (.cells #[.int .i64 0, .int .i64 0, .int .i64 0, .int .u16 0, .int .u16 0, .int .u16 0, .slice none 0 0, .slice none 0 0, .int .i64 0, .int .i64 0, .int .i64 0, .int .i64 0] 30)).alloc (.cells #[.int .i64 15, .int .i64 0, .int .i64 0, .int .u16 0, .int .u16 0, .int .u16 0, .slice none 0 0, .slice none 0 0, .int .i64 0, .int .i64 0, .int .i64 0, .int .i64 0] 30)) := ((Below.refl _ _).alloc (Nat.le_refl _) _).alloc (by simp) _
  have HR := Lib.hid ((hr.below hkw).more hkw.size)
  have HX := Lib.hid hx
  have HKW := Lib.hid hkw
  have HG4 : Hid (WholeV ((w.alloc (.cells #[.int .i64 0, .int .i64 0, .int .i64 0, .int .u16 0, .int .u16 0, .int .u16 0, .slice none 0 0, .slice none 0 0, .int .i64 0, .int .i64 0, .int .i64 0, .int .i64 0] 30)).alloc (.cells #[.int .i64 15, .int .i64 0, .int .i64 0, .int .u16 0, .int .u16 0, .int .u16 0, .slice none 0 0, .slice none 0 0, .int .i64 0, .int .i64 0, .int .i64 0, .int .i64 0] 30)) (w.heap.size + 1) 30 [.int .i64 15, .int .i64 0, .int .i64 0, .int .u16 0, .int .u16 0, .int .u16 0, .slice none 0 0, .slice none 0 0, .int .i64 0, .int .i64 0, .int .i64 0, .int .i64 0]) := by
    have h := heap_alloc_new (w.alloc (.cells #[.int .i64 0, .int .i64 0, .int .i64 0, .int .u16 0, .int .u16 0, .int .u16 0, .slice none 0 0, .slice none 0 0, .int .i64 0, .int .i64 0, .int .i64 0, .int .i64 0] 30)) (.cells #[.int .i64 15, .int .i64 0, .int .i64 0, .int .u16 0, .int .u16 0, .int .u16 0, .slice none 0 0, .slice none 0 0, .int .i64 0, .int .i64 0, .int .i64 0, .int .i64 0] 30)
    rwa [show (w.alloc (.cells #[.int .i64 0, .int .i64 0, .int .i64 0, .int .u16 0, .int .u16 0, .int .u16 0, .slice none 0 0, .slice none 0 0, .int .i64 0, .int .i64 0, .int .i64 0, .int .i64 0] 30)).heap.size = w.heap.size + 1 by simp] at h
  have HG2 : Hid (WholeV ((w.alloc (.cells #[.int .i64 0, .int .i64 0, .int .i64 0, .int .u16 0, .int .u16 0, .int .u16 0, .slice none 0 0, .slice none 0 0, .int .i64 0, .int .i64 0, .int .i64 0, .int .i64 0] 30)).alloc (.cells #[.int .i64 15, .int .i64 0, .int .i64 0, .int .u16 0, .int .u16 0, .int .u16 0, .slice none 0 0, .slice none 0 0, .int .i64 0, .int .i64 0, .int .i64 0, .int .i64 0] 30)) w.heap.size 30 [.int .i64 0, .int .i64 0, .int .i64 0, .int .u16 0, .int .u16 0, .int .u16 0, .slice none 0 0, .slice none 0 0, .int .i64 0, .int .i64 0, .int .i64 0, .int .i64 0]) := by
    have h : WholeV (w.alloc (.cells #[.int .i64 0, .int .i64 0, .int .i64 0, .int .u16 0, .int .u16 0, .int .u16 0, .slice none 0 0, .slice none 0 0, .int .i64 0, .int .i64 0, .int .i64 0, .int .i64 0] 30)) w.heap.size 30 [.int .i64 0, .int .i64 0, .int .i64 0, .int .u16 0, .int .u16 0, .int .u16 0, .slice none 0 0, .slice none 0 0, .int .i64 0, .int .i64 0, .int .i64 0, .int .i64 0] := heap_alloc_new w _
    exact h.below ((Below.refl _ _).alloc (Nat.le_refl _) _) (by simp)
  have HT : Hid (∀ X, Below w.heap.size w X → Row .u8 X X.heap.size (some ⟨b, off, none⟩) 0 (zs.drop 6)) := fun X hX => row_none hr.1
  clear hr hx hcell hkw
  have H0 := Lib.hid h0
  have HU := Lib.hid hu
  clear h0 hu hq
  have Hp := Lib.hid hp
  have Hq := Lib.hid hq
  clear hp hq
  have HK := Lib.hid hk
  have HKN := Lib.hid hkn
  have hkb : k ≤ 2100 := by unfold nb at hkn; omega
  clear hk hkn
  go_enter Try.func23, Try.ntmps23
  go_wp2_with (first
    | (go_at_call 42; refine (psize_many _ 6 6 zs _ 15 5 0 HR.out HX.out (by omega) (by omega) H0.out (by omega) (by omega) HU.out).mono ?_; rintro e w' ⟨rfl, rfl⟩; rw [show ((5 : Nat) : Int) + 1 + 0 = 6 by omega])
    | (go_at_call 43; refine (pair_other _ _ (by omega)).mono ?_; rintro e w' ⟨rfl, rfl⟩)
    | (go_at_call 44; (with_reducible refine (pnumber_any (some ⟨b, off, none⟩) 6 6 zs 1 p _ Hp.out (HR.out.drewN _) HX.out (by omega)).mono ?_); rintro e w' ⟨rfl, d1, rfl⟩)
    | (go_at_call 44; (with_reducible refine (pnumber_any (some ⟨b, off, none⟩) 6 6 zs 1 p _ Hp.out HR.out HX.out (by omega)).mono ?_); rintro e w' ⟨rfl, d1, rfl⟩)
    | (go_at_call 44; (with_reducible refine (pnumber_any (some ⟨b, off, none⟩) 6 6 zs 3 q _ Hq.out (HR.out.drewN _) HX.out (by omega)).mono ?_); rintro e w' ⟨rfl, d3, rfl⟩)
    | (go_at_call 44; (with_reducible refine (pnumber_any (some ⟨b, off, none⟩) 6 6 zs 3 q _ Hq.out HR.out HX.out (by omega)).mono ?_); rintro e w' ⟨rfl, d3, rfl⟩))
  obtain ⟨w3, hw3⟩ : ∃ w3, (((((w.alloc (.cells #[.int .i64 0, .int .i64 0, .int .i64 0, .int .u16 0, .int .u16 0, .int .u16 0, .slice none 0 0, .slice none 0 0, .int .i64 0, .int .i64 0, .int .i64 0, .int .i64 0] 30)).alloc (.cells #[.int .i64 15, .int .i64 0, .int .i64 0, .int .u16 0, .int .u16 0, .int .u16 0, .slice none 0 0, .slice none 0 0, .int .i64 0, .int .i64 0, .int .i64 0, .int .i64 0] 30)).drewN (d1 + d3)).setCell ⟨w.heap.size + 1, 1, none⟩ (.int .i64 p)).setCell ⟨w.heap.size + 1, 2, none⟩ (.int .i64 q)) = w3 := ⟨_, rfl⟩
  have hxa : Below (w.heap.size + 1) ((w.alloc (.cells #[.int .i64 0, .int .i64 0, .int .i64 0, .int .u16 0, .int .u16 0, .int .u16 0, .slice none 0 0, .slice none 0 0, .int .i64 0, .int .i64 0, .int .i64 0, .int .i64 0] 30)).alloc (.cells #[.int .i64 15, .int .i64 0, .int .i64 0, .int .u16 0, .int .u16 0, .int .u16 0, .slice none 0 0, .slice none 0 0, .int .i64 0, .int .i64 0, .int .i64 0, .int .i64 0] 30)) w3 := by rw [← hw3]; exact (((below_drewN (Below.refl (w.heap.size + 1) _) (d1 + d3)).setCell (p := ⟨w.heap.size + 1, 1, none⟩) (Nat.le_refl _) (.int .i64 p)).setCell (p := ⟨w.heap.size + 1, 2, none⟩) (Nat.le_refl _) (.int .i64 q))
  have ha4 : WholeV w3 (w.heap.size + 1) 30 [.int .i64 15, .int .i64 p, .int .i64 q, .int .u16 0, .int .u16 0, .int .u16 0, .slice none 0 0, .slice none 0 0, .int .i64 0, .int .i64 0, .int .i64 0, .int .i64 0] := by rw [← hw3]; exact (((HG4.out.drewN (d1 + d3)).set 1 (.int .i64 p)).set 2 (.int .i64 q))
  have ha2 : WholeV w3 w.heap.size 30 [.int .i64 0, .int .i64 0, .int .i64 0, .int .u16 0, .int .u16 0, .int .u16 0, .slice none 0 0, .slice none 0 0, .int .i64 0, .int .i64 0, .int .i64 0, .int .i64 0] := HG2.out.below hxa (Nat.lt_succ_self _)
  have hab : Below w.heap.size w w3 := HKW.out.trans (hxa.mono (Nat.le_succ _))
  have hz3 : w.heap.size + 2 ≤ w3.heap.size := ha4.lt
  rw [hw3]
  have HA4 := Lib.hid ha4
  have HA2 := Lib.hid ha2
  have HAB := Lib.hid hab
  have HT3 := Lib.hid (HT.out _ hab)
  obtain ⟨hq0, hq1, hq2, hq3, hq4, hq5, hq6, hq7, hq8, hq9, hq10, hq11⟩ := cells12 ha4
  clear hw3 hxa ha4 ha2 hab HG4 HG2 HKW
  go_region_with (first
      | (go_at_call 46
         (with_reducible refine (punpack_at _ 0 _ k q (zs.drop 6) _ (by have := HKN.out; omega) HK.out (HT3.out.drewN 1) (HX.out.drop 6) (by omega)).mono ?_)
         rintro e w5 ⟨rfl, ho5, hb5⟩
         have hb5' : Below w3.heap.size w3 w5 := below_from (d := 1) hb5
         have h1 := HA4.out.below hb5' (show w.heap.size + 1 < w3.heap.size by omega)
         have h0 := HA2.out.below hb5' (show w.heap.size < w3.heap.size by omega)
         have HB5 : Hid (Below w.heap.size w w5) := HAB.out.trans (hb5'.mono HAB.out.size)
         obtain ⟨hs0, hs1, hs2, hs3, hs4, hs5, hs6, hs7, hs8, hs9, hs10, hs11⟩ := cells12 h1
         obtain ⟨hp0, hp1, hp2, hp3, hp4, hp5, hp6, hp7, hp8, hp9, hp10, hp11⟩ := cells12 h0
         have hf0 := h1.frozen 0
         have hg0 := h0.frozen 0
         have hf1 := h1.frozen 1
         have hg1 := h0.frozen 1
         have hf2 := h1.frozen 2
         have hg2 := h0.frozen 2
         have hf3 := h1.frozen 3
         have hg3 := h0.frozen 3
         have hf4 := h1.frozen 4
         have hg4 := h0.frozen 4
         have hf5 := h1.frozen 5
         have hg5 := h0.frozen 5
         have hf6 := h1.frozen 6
         have hg6 := h0.frozen 6
         have hf7 := h1.frozen 7
         have hg7 := h0.frozen 7
         have hf8 := h1.frozen 8
         have hg8 := h0.frozen 8
         have hf9 := h1.frozen 9
         have hg9 := h0.frozen 9
         have hf10 := h1.frozen 10
         have hg10 := h0.frozen 10
         have hf11 := h1.frozen 11
         have hg11 := h0.frozen 11
         have hz5 : w.heap.size + 2 ≤ w5.heap.size := h1.lt
         have HH1 := Lib.hid h1
         have HH0 := Lib.hid h0
         have HO5 := Lib.hid ho5
         clear h1 h0 hb5 hb5' ho5))
  all_goals
    go_wp2
    obtain ⟨X, hX⟩ : ∃ X, (w5.setCell ⟨w.heap.size + 1, 6, none⟩ (.slice (some ⟨w3.heap.size, 0, none⟩) k k)) = X := ⟨_, rfl⟩
    have hx0 : WholeV X w.heap.size 30 [.int .i64 0, .int .i64 0, .int .i64 0, .int .u16 0, .int .u16 0, .int .u16 0, .slice none 0 0, .slice none 0 0, .int .i64 0, .int .i64 0, .int .i64 0, .int .i64 0] := by rw [← hX]; exact HH0.out.below ((Below.refl (w.heap.size + 1) _).setCell (p := ⟨w.heap.size + 1, 6, none⟩) (Nat.le_refl _) _) (Nat.lt_succ_self _)
    have hxb : Below w.heap.size w X := by rw [← hX]; exact HB5.out.setCell (p := ⟨w.heap.size + 1, 6, none⟩) (Nat.le_succ _) _
    have hox : X.ownsRow w3.heap.size 4 1 (.slice (some ⟨w3.heap.size, 0, none⟩) k k) k ((unb (zs.drop 6) k).map Value.bool) := by rw [← hX]; exact own_far (own_of_whole HO5.out (Nat.le_refl _) (by simp [unb_length, wordsAt_length]) (by omega)) ⟨w.heap.size + 1, 6, none⟩ (show w.heap.size + 1 < w3.heap.size by omega) _
    rw [hX]
    obtain ⟨w9, hw9⟩ : ∃ w9, ((((((((((((X.setCell ⟨w.heap.size, 0, none⟩ (.int .i64 15)).setCell ⟨w.heap.size, 1, none⟩ (.int .i64 p)).setCell ⟨w.heap.size, 2, none⟩ (.int .i64 q)).setCell ⟨w.heap.size, 3, none⟩ (.int .u16 0)).setCell ⟨w.heap.size, 4, none⟩ (.int .u16 0)).setCell ⟨w.heap.size, 5, none⟩ (.int .u16 0)).setCell ⟨w.heap.size, 6, none⟩ (.slice (some ⟨w3.heap.size, 0, none⟩) k k)).setCell ⟨w.heap.size, 7, none⟩ (.slice none 0 0)).setCell ⟨w.heap.size, 8, none⟩ (.int .i64 0)).setCell ⟨w.heap.size, 9, none⟩ (.int .i64 0)).setCell ⟨w.heap.size, 10, none⟩ (.int .i64 0)).setCell ⟨w.heap.size, 11, none⟩ (.int .i64 0)) = w9 := ⟨_, rfl⟩
    have hwh := all12 hx0 (.int .i64 15) (.int .i64 p) (.int .i64 q) (.int .u16 0) (.int .u16 0) (.int .u16 0) (.slice (some ⟨w3.heap.size, 0, none⟩) k k) (.slice none 0 0) (.int .i64 0) (.int .i64 0) (.int .i64 0) (.int .i64 0) rfl
    have hbb := bel12 hxb (.int .i64 15) (.int .i64 p) (.int .i64 q) (.int .u16 0) (.int .u16 0) (.int .u16 0) (.slice (some ⟨w3.heap.size, 0, none⟩) k k) (.slice none 0 0) (.int .i64 0) (.int .i64 0) (.int .i64 0) (.int .i64 0)
    have ho9 : w9.ownsRow w3.heap.size 4 1 (.slice (some ⟨w3.heap.size, 0, none⟩) k k) k ((unb (zs.drop 6) k).map Value.bool) := by rw [← hw9]; exact (own_far (own_far (own_far (own_far (own_far (own_far (own_far (own_far (own_far (own_far (own_far (own_far hox ⟨w.heap.size, 0, none⟩ (show w.heap.size < w3.heap.size by omega) (.int .i64 15)) ⟨w.heap.size, 1, none⟩ (show w.heap.size < w3.heap.size by omega) (.int .i64 p)) ⟨w.heap.size, 2, none⟩ (show w.heap.size < w3.heap.size by omega) (.int .i64 q)) ⟨w.heap.size, 3, none⟩ (show w.heap.size < w3.heap.size by omega) (.int .u16 0)) ⟨w.heap.size, 4, none⟩ (show w.heap.size < w3.heap.size by omega) (.int .u16 0)) ⟨w.heap.size, 5, none⟩ (show w.heap.size < w3.heap.size by omega) (.int .u16 0)) ⟨w.heap.size, 6, none⟩ (show w.heap.size < w3.heap.size by omega) (.slice (some ⟨w3.heap.size, 0, none⟩) k k)) ⟨w.heap.size, 7, none⟩ (show w.heap.size < w3.heap.size by omega) (.slice none 0 0)) ⟨w.heap.size, 8, none⟩ (show w.heap.size < w3.heap.size by omega) (.int .i64 0)) ⟨w.heap.size, 9, none⟩ (show w.heap.size < w3.heap.size by omega) (.int .i64 0)) ⟨w.heap.size, 10, none⟩ (show w.heap.size < w3.heap.size by omega) (.int .i64 0)) ⟨w.heap.size, 11, none⟩ (show w.heap.size < w3.heap.size by omega) (.int .i64 0))
    rw [hw9] at hwh hbb
    rw [hw9]
    obtain ⟨he0, he1, he2, he3, he4, he5, he6, he7, he8, he9, he10, he11⟩ := cells12 hwh
    exact bodyPost_ret (v := .tuple #[.agg #[.int .i64 15, .int .i64 p, .int .i64 q, .int .u16 0, .int .u16 0, .int .u16 0, .slice (some ⟨w3.heap.size, 0, none⟩) k k, .slice none 0 0, .int .i64 0, .int .i64 0, .int .i64 0, .int .i64 0], .bool true]) (by simp [results, Try.results23, go_sem, he0, he1, he2, he3, he4, he5, he6, he7, he8, he9, he10, he11]) rfl ⟨_, _, rfl, own_mono ho9 HAB.out.size, hbb⟩

set_option maxRecDepth 100000 in
set_option maxHeartbeats 600000 in
theorem pfields_bad_15a (A : Option Addr) (n c : Nat) (zs : List Int) (w : World) (hr : Row .u8 w w.heap.size A n zs) (hx : Bytes8 zs) (hn : n ≤ 1000) (h1 : 1 ≤ n) (u p q : Int) (h0 : zs.getD 0 0 = 15) (hl : 5 < n) (hc : n ≤ c) (hcap : ¬ c = 6) (hu : zs.getD 5 0 = u) (hq : (n : Int) = 6 + u) (hp : gotW zs n 1 = p) (hq : gotW zs n 3 = q) (hbad : nbI q ≠ u) :
    Calls Try.prog 23 #[.slice A n c] w fun e w' => e = .returned (.tuple #[.agg #[.int .i64 15, .int .i64 p, .int .i64 q, .int .u16 0, .int .u16 0, .int .u16 0, .slice none 0 0, .slice none 0 0, .int .i64 0, .int .i64 0, .int .i64 0, .int .i64 0], .bool false]) ∧ Below w.heap.size w w' := by
  obtain ⟨lop, hip⟩ := gotW_bounds hx n 1
  rw [hp] at lop hip
  obtain ⟨loq, hiq⟩ := gotW_bounds hx n 3
  rw [hq] at loq hiq
  obtain ⟨lou, hiu⟩ := hx.at_ 5
  change 0 ≤ zs.getD 5 0 at lou
  change zs.getD 5 0 ≤ 255 at hiu
  rw [hu] at lou hiu
  obtain ⟨t, ht⟩ : ∃ t : Nat, (t : Int) = u := ⟨u.toNat, by omega⟩
  subst ht
  have hnt : n = 6 + t := by omega
  subst hnt
  have hct : 6 < c := by omega
  obtain ⟨b, off, rfl, hb, hcell⟩ := hr.2 (by omega)
  have hc0 : (w.alloc (.cells #[.int .i64 0, .int .i64 0, .int .i64 0, .int .u16 0, .int .u16 0, .int .u16 0, .slice none 0 0, .slice none 0 0, .int .i64 0, .int .i64 0, .int .i64 0, .int .i64 0] 30)).cell? ⟨b, off, none⟩ = some (.int .u8 15) := by
    rw [World.cell?_alloc_lt w _ ⟨b, off, none⟩ hb]
    have := hcell 0 (by omega)
    rw [Nat.add_zero, h0] at this
    exact this
  have hn0 : (0 : Int) < (((6 + t) : Nat) : Int) := by omega
  have hkw : Below w.heap.size w ((w.alloc (.cells #[.int .i64 0, .int .i64 0, .int .i64 0, .int .u16 0, .int .u16 0, .int .u16 0, .slice none 0 0, .slice none 0 0, .int .i64 0, .int .i64 0, .int .i64 0, .int .i64 0] 30)).alloc (.cells #[.int .i64 15, .int .i64 0, .int .i64 0, .int .u16 0, .int .u16 0, .int .u16 0, .slice none 0 0, .slice none 0 0, .int .i64 0, .int .i64 0, .int .i64 0, .int .i64 0] 30)) := ((Below.refl _ _).alloc (Nat.le_refl _) _).alloc (by simp) _
  have HR := Lib.hid ((hr.below hkw).more hkw.size)
  have HX := Lib.hid hx
  have HKW := Lib.hid hkw
  have HG4 : Hid (WholeV ((w.alloc (.cells #[.int .i64 0, .int .i64 0, .int .i64 0, .int .u16 0, .int .u16 0, .int .u16 0, .slice none 0 0, .slice none 0 0, .int .i64 0, .int .i64 0, .int .i64 0, .int .i64 0] 30)).alloc (.cells #[.int .i64 15, .int .i64 0, .int .i64 0, .int .u16 0, .int .u16 0, .int .u16 0, .slice none 0 0, .slice none 0 0, .int .i64 0, .int .i64 0, .int .i64 0, .int .i64 0] 30)) (w.heap.size + 1) 30 [.int .i64 15, .int .i64 0, .int .i64 0, .int .u16 0, .int .u16 0, .int .u16 0, .slice none 0 0, .slice none 0 0, .int .i64 0, .int .i64 0, .int .i64 0, .int .i64 0]) := by
    have h := heap_alloc_new (w.alloc (.cells #[.int .i64 0, .int .i64 0, .int .i64 0, .int .u16 0, .int .u16 0, .int .u16 0, .slice none 0 0, .slice none 0 0, .int .i64 0, .int .i64 0, .int .i64 0, .int .i64 0] 30)) (.cells #[.int .i64 15, .int .i64 0, .int .i64 0, .int .u16 0, .int .u16 0, .int .u16 0, .slice none 0 0, .slice none 0 0, .int .i64 0, .int .i64 0, .int .i64 0, .int .i64 0] 30)
    rwa [show (w.alloc (.cells #[.int .i64 0, .int .i64 0, .int .i64 0, .int .u16 0, .int .u16 0, .int .u16 0, .slice none 0 0, .slice none 0 0, .int .i64 0, .int .i64 0, .int .i64 0, .int .i64 0] 30)).heap.size = w.heap.size + 1 by simp] at h
  have HG2 : Hid (WholeV ((w.alloc (.cells #[.int .i64 0, .int .i64 0, .int .i64 0, .int .u16 0, .int .u16 0, .int .u16 0, .slice none 0 0, .slice none 0 0, .int .i64 0, .int .i64 0, .int .i64 0, .int .i64 0] 30)).alloc (.cells #[.int .i64 15, .int .i64 0, .int .i64 0, .int .u16 0, .int .u16 0, .int .u16 0, .slice none 0 0, .slice none 0 0, .int .i64 0, .int .i64 0, .int .i64 0, .int .i64 0] 30)) w.heap.size 30 [.int .i64 0, .int .i64 0, .int .i64 0, .int .u16 0, .int .u16 0, .int .u16 0, .slice none 0 0, .slice none 0 0, .int .i64 0, .int .i64 0, .int .i64 0, .int .i64 0]) := by
    have h : WholeV (w.alloc (.cells #[.int .i64 0, .int .i64 0, .int .i64 0, .int .u16 0, .int .u16 0, .int .u16 0, .slice none 0 0, .slice none 0 0, .int .i64 0, .int .i64 0, .int .i64 0, .int .i64 0] 30)) w.heap.size 30 [.int .i64 0, .int .i64 0, .int .i64 0, .int .u16 0, .int .u16 0, .int .u16 0, .slice none 0 0, .slice none 0 0, .int .i64 0, .int .i64 0, .int .i64 0, .int .i64 0] := heap_alloc_new w _
    exact h.below ((Below.refl _ _).alloc (Nat.le_refl _) _) (by simp)
  have HT : Hid (∀ X, Below w.heap.size w X → Row .u8 X X.heap.size (some ⟨b, off + 6, none⟩) t (zs.drop 6)) := fun X hX => ((hr.below hX).more hX.size).tail rfl
  clear hr hx hcell hkw
  have H0 := Lib.hid h0
  have HU := Lib.hid hu
  clear h0 hu hq
  have Hp := Lib.hid hp
  have Hq := Lib.hid hq
  clear hp hq
  have HBad := Lib.hid hbad
  clear hbad
  go_enter Try.func23, Try.ntmps23
  go_wp2_with (first
    | (go_at_call 42; refine (psize_many _ (6 + t) c zs _ 15 5 (t : Int) HR.out HX.out (by omega) (by omega) H0.out (by omega) (by omega) HU.out).mono ?_; rintro e w' ⟨rfl, rfl⟩; rw [show ((5 : Nat) : Int) + 1 + (t : Int) = (((6 + t) : Nat) : Int) by omega])
    | (go_at_call 43; refine (pair_other _ _ (by omega)).mono ?_; rintro e w' ⟨rfl, rfl⟩)
    | (go_at_call 44; (with_reducible refine (pnumber_any (some ⟨b, off, none⟩) (6 + t) c zs 1 p _ Hp.out (HR.out.drewN _) HX.out (by omega)).mono ?_); rintro e w' ⟨rfl, d1, rfl⟩)
    | (go_at_call 44; (with_reducible refine (pnumber_any (some ⟨b, off, none⟩) (6 + t) c zs 1 p _ Hp.out HR.out HX.out (by omega)).mono ?_); rintro e w' ⟨rfl, d1, rfl⟩)
    | (go_at_call 44; (with_reducible refine (pnumber_any (some ⟨b, off, none⟩) (6 + t) c zs 3 q _ Hq.out (HR.out.drewN _) HX.out (by omega)).mono ?_); rintro e w' ⟨rfl, d3, rfl⟩)
    | (go_at_call 44; (with_reducible refine (pnumber_any (some ⟨b, off, none⟩) (6 + t) c zs 3 q _ Hq.out HR.out HX.out (by omega)).mono ?_); rintro e w' ⟨rfl, d3, rfl⟩))
  obtain ⟨w3, hw3⟩ : ∃ w3, (((((w.alloc (.cells #[.int .i64 0, .int .i64 0, .int .i64 0, .int .u16 0, .int .u16 0, .int .u16 0, .slice none 0 0, .slice none 0 0, .int .i64 0, .int .i64 0, .int .i64 0, .int .i64 0] 30)).alloc (.cells #[.int .i64 15, .int .i64 0, .int .i64 0, .int .u16 0, .int .u16 0, .int .u16 0, .slice none 0 0, .slice none 0 0, .int .i64 0, .int .i64 0, .int .i64 0, .int .i64 0] 30)).drewN (d1 + d3)).setCell ⟨w.heap.size + 1, 1, none⟩ (.int .i64 p)).setCell ⟨w.heap.size + 1, 2, none⟩ (.int .i64 q)) = w3 := ⟨_, rfl⟩
  have hxa : Below (w.heap.size + 1) ((w.alloc (.cells #[.int .i64 0, .int .i64 0, .int .i64 0, .int .u16 0, .int .u16 0, .int .u16 0, .slice none 0 0, .slice none 0 0, .int .i64 0, .int .i64 0, .int .i64 0, .int .i64 0] 30)).alloc (.cells #[.int .i64 15, .int .i64 0, .int .i64 0, .int .u16 0, .int .u16 0, .int .u16 0, .slice none 0 0, .slice none 0 0, .int .i64 0, .int .i64 0, .int .i64 0, .int .i64 0] 30)) w3 := by rw [← hw3]; exact (((below_drewN (Below.refl (w.heap.size + 1) _) (d1 + d3)).setCell (p := ⟨w.heap.size + 1, 1, none⟩) (Nat.le_refl _) (.int .i64 p)).setCell (p := ⟨w.heap.size + 1, 2, none⟩) (Nat.le_refl _) (.int .i64 q))
  have ha4 : WholeV w3 (w.heap.size + 1) 30 [.int .i64 15, .int .i64 p, .int .i64 q, .int .u16 0, .int .u16 0, .int .u16 0, .slice none 0 0, .slice none 0 0, .int .i64 0, .int .i64 0, .int .i64 0, .int .i64 0] := by rw [← hw3]; exact (((HG4.out.drewN (d1 + d3)).set 1 (.int .i64 p)).set 2 (.int .i64 q))
  have ha2 : WholeV w3 w.heap.size 30 [.int .i64 0, .int .i64 0, .int .i64 0, .int .u16 0, .int .u16 0, .int .u16 0, .slice none 0 0, .slice none 0 0, .int .i64 0, .int .i64 0, .int .i64 0, .int .i64 0] := HG2.out.below hxa (Nat.lt_succ_self _)
  have hab : Below w.heap.size w w3 := HKW.out.trans (hxa.mono (Nat.le_succ _))
  have hz3 : w.heap.size + 2 ≤ w3.heap.size := ha4.lt
  rw [hw3]
  have HA4 := Lib.hid ha4
  have HA2 := Lib.hid ha2
  have HAB := Lib.hid hab
  have HT3 := Lib.hid (HT.out _ hab)
  obtain ⟨hq0, hq1, hq2, hq3, hq4, hq5, hq6, hq7, hq8, hq9, hq10, hq11⟩ := cells12 ha4
  clear hw3 hxa ha4 ha2 hab HG4 HG2 HKW
  have hf6 := HA4.out.frozen 6
  obtain ⟨hp0, hp1, hp2, hp3, hp4, hp5, hp6, hp7, hp8, hp9, hp10, hp11⟩ := cells12 HA2.out
  have hg0 := HA2.out.frozen 0
  have hg1 := HA2.out.frozen 1
  have hg2 := HA2.out.frozen 2
  have hg3 := HA2.out.frozen 3
  have hg4 := HA2.out.frozen 4
  have hg5 := HA2.out.frozen 5
  have hg6 := HA2.out.frozen 6
  have hg7 := HA2.out.frozen 7
  have hg8 := HA2.out.frozen 8
  have hg9 := HA2.out.frozen 9
  have hg10 := HA2.out.frozen 10
  have hg11 := HA2.out.frozen 11
  go_region_with (first
    | (go_at_call 46; (with_reducible refine (unpack_no _ t _ q _ (by omega) (by omega) (by have := HBad.out; omega)).mono ?_); rintro e w' ⟨rfl, rfl⟩))
  all_goals
    go_wp2
    obtain ⟨X, hX⟩ : ∃ X, (w3.setCell ⟨w.heap.size + 1, 6, none⟩ (.slice none 0 0)) = X := ⟨_, rfl⟩
    have hx0 : WholeV X w.heap.size 30 [.int .i64 0, .int .i64 0, .int .i64 0, .int .u16 0, .int .u16 0, .int .u16 0, .slice none 0 0, .slice none 0 0, .int .i64 0, .int .i64 0, .int .i64 0, .int .i64 0] := by rw [← hX]; exact HA2.out.below ((Below.refl (w.heap.size + 1) _).setCell (p := ⟨w.heap.size + 1, 6, none⟩) (Nat.le_refl _) _) (Nat.lt_succ_self _)
    have hxb : Below w.heap.size w X := by rw [← hX]; exact HAB.out.setCell (p := ⟨w.heap.size + 1, 6, none⟩) (Nat.le_succ _) _
    rw [hX]
    obtain ⟨w9, hw9⟩ : ∃ w9, ((((((((((((X.setCell ⟨w.heap.size, 0, none⟩ (.int .i64 15)).setCell ⟨w.heap.size, 1, none⟩ (.int .i64 p)).setCell ⟨w.heap.size, 2, none⟩ (.int .i64 q)).setCell ⟨w.heap.size, 3, none⟩ (.int .u16 0)).setCell ⟨w.heap.size, 4, none⟩ (.int .u16 0)).setCell ⟨w.heap.size, 5, none⟩ (.int .u16 0)).setCell ⟨w.heap.size, 6, none⟩ (.slice none 0 0)).setCell ⟨w.heap.size, 7, none⟩ (.slice none 0 0)).setCell ⟨w.heap.size, 8, none⟩ (.int .i64 0)).setCell ⟨w.heap.size, 9, none⟩ (.int .i64 0)).setCell ⟨w.heap.size, 10, none⟩ (.int .i64 0)).setCell ⟨w.heap.size, 11, none⟩ (.int .i64 0)) = w9 := ⟨_, rfl⟩
    have hwh := all12 hx0 (.int .i64 15) (.int .i64 p) (.int .i64 q) (.int .u16 0) (.int .u16 0) (.int .u16 0) (.slice none 0 0) (.slice none 0 0) (.int .i64 0) (.int .i64 0) (.int .i64 0) (.int .i64 0) rfl
    have hbb := bel12 hxb (.int .i64 15) (.int .i64 p) (.int .i64 q) (.int .u16 0) (.int .u16 0) (.int .u16 0) (.slice none 0 0) (.slice none 0 0) (.int .i64 0) (.int .i64 0) (.int .i64 0) (.int .i64 0)
    rw [hw9] at hwh hbb
    rw [hw9]
    obtain ⟨he0, he1, he2, he3, he4, he5, he6, he7, he8, he9, he10, he11⟩ := cells12 hwh
    exact bodyPost_ret (v := .tuple #[.agg #[.int .i64 15, .int .i64 p, .int .i64 q, .int .u16 0, .int .u16 0, .int .u16 0, .slice none 0 0, .slice none 0 0, .int .i64 0, .int .i64 0, .int .i64 0, .int .i64 0], .bool false]) (by simp [results, Try.results23, go_sem, he0, he1, he2, he3, he4, he5, he6, he7, he8, he9, he10, he11]) rfl ⟨rfl, hbb.drew⟩

set_option maxRecDepth 100000 in
set_option maxHeartbeats 600000 in
theorem pfields_bad_15b (A : Option Addr) (n c : Nat) (zs : List Int) (w : World) (hr : Row .u8 w w.heap.size A n zs) (hx : Bytes8 zs) (hn : n ≤ 1000) (h1 : 1 ≤ n) (u p q : Int) (h0 : zs.getD 0 0 = 15) (hl : 5 < n) (hc : n ≤ c) (hcap : c = 6) (hu : zs.getD 5 0 = u) (hq : (n : Int) = 6 + u) (hp : gotW zs n 1 = p) (hq : gotW zs n 3 = q) (hbad : nbI q ≠ u) :
    Calls Try.prog 23 #[.slice A n c] w fun e w' => e = .returned (.tuple #[.agg #[.int .i64 15, .int .i64 p, .int .i64 q, .int .u16 0, .int .u16 0, .int .u16 0, .slice none 0 0, .slice none 0 0, .int .i64 0, .int .i64 0, .int .i64 0, .int .i64 0], .bool false]) ∧ Below w.heap.size w w' := by
  obtain ⟨lop, hip⟩ := gotW_bounds hx n 1
  rw [hp] at lop hip
  obtain ⟨loq, hiq⟩ := gotW_bounds hx n 3
  rw [hq] at loq hiq
  obtain ⟨lou, hiu⟩ := hx.at_ 5
  change 0 ≤ zs.getD 5 0 at lou
  change zs.getD 5 0 ≤ 255 at hiu
  rw [hu] at lou hiu
  subst hcap
  obtain rfl : n = 6 := by omega
  obtain rfl : u = 0 := by omega
  obtain ⟨b, off, rfl, hb, hcell⟩ := hr.2 (by omega)
  have hc0 : (w.alloc (.cells #[.int .i64 0, .int .i64 0, .int .i64 0, .int .u16 0, .int .u16 0, .int .u16 0, .slice none 0 0, .slice none 0 0, .int .i64 0, .int .i64 0, .int .i64 0, .int .i64 0] 30)).cell? ⟨b, off, none⟩ = some (.int .u8 15) := by
    rw [World.cell?_alloc_lt w _ ⟨b, off, none⟩ hb]
    have := hcell 0 (by omega)
    rw [Nat.add_zero, h0] at this
    exact this
  have hn0 : (0 : Int) < ((6 : Nat) : Int) := by omega
  have hkw : Below w.heap.size w ((w.alloc (.cells #[.int .i64 0, .int .i64 0, .int .i64 0, .int .u16 0, .int .u16 0, .int .u16 0, .slice none 0 0, .slice none 0 0, .int .i64 0, .int .i64 0, .int .i64 0, .int .i64 0] 30)).alloc (.cells #[.int .i64 15, .int .i64 0, .int .i64 0, .int .u16 0, .int .u16 0, .int .u16 0, .slice none 0 0, .slice none 0 0, .int .i64 0, .int .i64 0, .int .i64 0, .int .i64 0] 30)) := ((Below.refl _ _).alloc (Nat.le_refl _) _).alloc (by simp) _
  have HR := Lib.hid ((hr.below hkw).more hkw.size)
  have HX := Lib.hid hx
  have HKW := Lib.hid hkw
  have HG4 : Hid (WholeV ((w.alloc (.cells #[.int .i64 0, .int .i64 0, .int .i64 0, .int .u16 0, .int .u16 0, .int .u16 0, .slice none 0 0, .slice none 0 0, .int .i64 0, .int .i64 0, .int .i64 0, .int .i64 0] 30)).alloc (.cells #[.int .i64 15, .int .i64 0, .int .i64 0, .int .u16 0, .int .u16 0, .int .u16 0, .slice none 0 0, .slice none 0 0, .int .i64 0, .int .i64 0, .int .i64 0, .int .i64 0] 30)) (w.heap.size + 1) 30 [.int .i64 15, .int .i64 0, .int .i64 0, .int .u16 0, .int .u16 0, .int .u16 0, .slice none 0 0, .slice none 0 0, .int .i64 0, .int .i64 0, .int .i64 0, .int .i64 0]) := by
    have h := heap_alloc_new (w.alloc (.cells #[.int .i64 0, .int .i64 0, .int .i64 0, .int .u16 0, .int .u16 0, .int .u16 0, .slice none 0 0, .slice none 0 0, .int .i64 0, .int .i64 0, .int .i64 0, .int .i64 0] 30)) (.cells #[.int .i64 15, .int .i64 0, .int .i64 0, .int .u16 0, .int .u16 0, .int .u16 0, .slice none 0 0, .slice none 0 0, .int .i64 0, .int .i64 0, .int .i64 0, .int .i64 0] 30)
    rwa [show (w.alloc (.cells #[.int .i64 0, .int .i64 0, .int .i64 0, .int .u16 0, .int .u16 0, .int .u16 0, .slice none 0 0, .slice none 0 0, .int .i64 0, .int .i64 0, .int .i64 0, .int .i64 0] 30)).heap.size = w.heap.size + 1 by simp] at h
  have HG2 : Hid (WholeV ((w.alloc (.cells #[.int .i64 0, .int .i64 0, .int .i64 0, .int .u16 0, .int .u16 0, .int .u16 0, .slice none 0 0, .slice none 0 0, .int .i64 0, .int .i64 0, .int .i64 0, .int .i64 0] 30)).alloc (.cells #[.int .i64 15, .int .i64 0, .int .i64 0, .int .u16 0, .int .u16 0, .int .u16 0, .slice none 0 0, .slice none 0 0, .int .i64 0, .int .i64 0, .int .i64 0, .int .i64 0] 30)) w.heap.size 30 [.int .i64 0, .int .i64 0, .int .i64 0, .int .u16 0, .int .u16 0, .int .u16 0, .slice none 0 0, .slice none 0 0, .int .i64 0, .int .i64 0, .int .i64 0, .int .i64 0]) := by
    have h : WholeV (w.alloc (.cells #[.int .i64 0, .int .i64 0, .int .i64 0, .int .u16 0, .int .u16 0, .int .u16 0, .slice none 0 0, .slice none 0 0, .int .i64 0, .int .i64 0, .int .i64 0, .int .i64 0] 30)) w.heap.size 30 [.int .i64 0, .int .i64 0, .int .i64 0, .int .u16 0, .int .u16 0, .int .u16 0, .slice none 0 0, .slice none 0 0, .int .i64 0, .int .i64 0, .int .i64 0, .int .i64 0] := heap_alloc_new w _
    exact h.below ((Below.refl _ _).alloc (Nat.le_refl _) _) (by simp)
  have HT : Hid (∀ X, Below w.heap.size w X → Row .u8 X X.heap.size (some ⟨b, off, none⟩) 0 (zs.drop 6)) := fun X hX => row_none hr.1
  clear hr hx hcell hkw
  have H0 := Lib.hid h0
  have HU := Lib.hid hu
  clear h0 hu hq
  have Hp := Lib.hid hp
  have Hq := Lib.hid hq
  clear hp hq
  have HBad := Lib.hid hbad
  clear hbad
  go_enter Try.func23, Try.ntmps23
  go_wp2_with (first
    | (go_at_call 42; refine (psize_many _ 6 6 zs _ 15 5 0 HR.out HX.out (by omega) (by omega) H0.out (by omega) (by omega) HU.out).mono ?_; rintro e w' ⟨rfl, rfl⟩; rw [show ((5 : Nat) : Int) + 1 + 0 = 6 by omega])
    | (go_at_call 43; refine (pair_other _ _ (by omega)).mono ?_; rintro e w' ⟨rfl, rfl⟩)
    | (go_at_call 44; (with_reducible refine (pnumber_any (some ⟨b, off, none⟩) 6 6 zs 1 p _ Hp.out (HR.out.drewN _) HX.out (by omega)).mono ?_); rintro e w' ⟨rfl, d1, rfl⟩)
    | (go_at_call 44; (with_reducible refine (pnumber_any (some ⟨b, off, none⟩) 6 6 zs 1 p _ Hp.out HR.out HX.out (by omega)).mono ?_); rintro e w' ⟨rfl, d1, rfl⟩)
    | (go_at_call 44; (with_reducible refine (pnumber_any (some ⟨b, off, none⟩) 6 6 zs 3 q _ Hq.out (HR.out.drewN _) HX.out (by omega)).mono ?_); rintro e w' ⟨rfl, d3, rfl⟩)
    | (go_at_call 44; (with_reducible refine (pnumber_any (some ⟨b, off, none⟩) 6 6 zs 3 q _ Hq.out HR.out HX.out (by omega)).mono ?_); rintro e w' ⟨rfl, d3, rfl⟩))
  obtain ⟨w3, hw3⟩ : ∃ w3, (((((w.alloc (.cells #[.int .i64 0, .int .i64 0, .int .i64 0, .int .u16 0, .int .u16 0, .int .u16 0, .slice none 0 0, .slice none 0 0, .int .i64 0, .int .i64 0, .int .i64 0, .int .i64 0] 30)).alloc (.cells #[.int .i64 15, .int .i64 0, .int .i64 0, .int .u16 0, .int .u16 0, .int .u16 0, .slice none 0 0, .slice none 0 0, .int .i64 0, .int .i64 0, .int .i64 0, .int .i64 0] 30)).drewN (d1 + d3)).setCell ⟨w.heap.size + 1, 1, none⟩ (.int .i64 p)).setCell ⟨w.heap.size + 1, 2, none⟩ (.int .i64 q)) = w3 := ⟨_, rfl⟩
  have hxa : Below (w.heap.size + 1) ((w.alloc (.cells #[.int .i64 0, .int .i64 0, .int .i64 0, .int .u16 0, .int .u16 0, .int .u16 0, .slice none 0 0, .slice none 0 0, .int .i64 0, .int .i64 0, .int .i64 0, .int .i64 0] 30)).alloc (.cells #[.int .i64 15, .int .i64 0, .int .i64 0, .int .u16 0, .int .u16 0, .int .u16 0, .slice none 0 0, .slice none 0 0, .int .i64 0, .int .i64 0, .int .i64 0, .int .i64 0] 30)) w3 := by rw [← hw3]; exact (((below_drewN (Below.refl (w.heap.size + 1) _) (d1 + d3)).setCell (p := ⟨w.heap.size + 1, 1, none⟩) (Nat.le_refl _) (.int .i64 p)).setCell (p := ⟨w.heap.size + 1, 2, none⟩) (Nat.le_refl _) (.int .i64 q))
  have ha4 : WholeV w3 (w.heap.size + 1) 30 [.int .i64 15, .int .i64 p, .int .i64 q, .int .u16 0, .int .u16 0, .int .u16 0, .slice none 0 0, .slice none 0 0, .int .i64 0, .int .i64 0, .int .i64 0, .int .i64 0] := by rw [← hw3]; exact (((HG4.out.drewN (d1 + d3)).set 1 (.int .i64 p)).set 2 (.int .i64 q))
  have ha2 : WholeV w3 w.heap.size 30 [.int .i64 0, .int .i64 0, .int .i64 0, .int .u16 0, .int .u16 0, .int .u16 0, .slice none 0 0, .slice none 0 0, .int .i64 0, .int .i64 0, .int .i64 0, .int .i64 0] := HG2.out.below hxa (Nat.lt_succ_self _)
  have hab : Below w.heap.size w w3 := HKW.out.trans (hxa.mono (Nat.le_succ _))
  have hz3 : w.heap.size + 2 ≤ w3.heap.size := ha4.lt
  rw [hw3]
  have HA4 := Lib.hid ha4
  have HA2 := Lib.hid ha2
  have HAB := Lib.hid hab
  have HT3 := Lib.hid (HT.out _ hab)
  obtain ⟨hq0, hq1, hq2, hq3, hq4, hq5, hq6, hq7, hq8, hq9, hq10, hq11⟩ := cells12 ha4
  clear hw3 hxa ha4 ha2 hab HG4 HG2 HKW
  have hf6 := HA4.out.frozen 6
  obtain ⟨hp0, hp1, hp2, hp3, hp4, hp5, hp6, hp7, hp8, hp9, hp10, hp11⟩ := cells12 HA2.out
  have hg0 := HA2.out.frozen 0
  have hg1 := HA2.out.frozen 1
  have hg2 := HA2.out.frozen 2
  have hg3 := HA2.out.frozen 3
  have hg4 := HA2.out.frozen 4
  have hg5 := HA2.out.frozen 5
  have hg6 := HA2.out.frozen 6
  have hg7 := HA2.out.frozen 7
  have hg8 := HA2.out.frozen 8
  have hg9 := HA2.out.frozen 9
  have hg10 := HA2.out.frozen 10
  have hg11 := HA2.out.frozen 11
  go_region_with (first
    | (go_at_call 46; (with_reducible refine (unpack_no _ 0 _ q _ (by omega) (by omega) (by have := HBad.out; omega)).mono ?_); rintro e w' ⟨rfl, rfl⟩))
  all_goals
    go_wp2
    obtain ⟨X, hX⟩ : ∃ X, (w3.setCell ⟨w.heap.size + 1, 6, none⟩ (.slice none 0 0)) = X := ⟨_, rfl⟩
    have hx0 : WholeV X w.heap.size 30 [.int .i64 0, .int .i64 0, .int .i64 0, .int .u16 0, .int .u16 0, .int .u16 0, .slice none 0 0, .slice none 0 0, .int .i64 0, .int .i64 0, .int .i64 0, .int .i64 0] := by rw [← hX]; exact HA2.out.below ((Below.refl (w.heap.size + 1) _).setCell (p := ⟨w.heap.size + 1, 6, none⟩) (Nat.le_refl _) _) (Nat.lt_succ_self _)
    have hxb : Below w.heap.size w X := by rw [← hX]; exact HAB.out.setCell (p := ⟨w.heap.size + 1, 6, none⟩) (Nat.le_succ _) _
    rw [hX]
    obtain ⟨w9, hw9⟩ : ∃ w9, ((((((((((((X.setCell ⟨w.heap.size, 0, none⟩ (.int .i64 15)).setCell ⟨w.heap.size, 1, none⟩ (.int .i64 p)).setCell ⟨w.heap.size, 2, none⟩ (.int .i64 q)).setCell ⟨w.heap.size, 3, none⟩ (.int .u16 0)).setCell ⟨w.heap.size, 4, none⟩ (.int .u16 0)).setCell ⟨w.heap.size, 5, none⟩ (.int .u16 0)).setCell ⟨w.heap.size, 6, none⟩ (.slice none 0 0)).setCell ⟨w.heap.size, 7, none⟩ (.slice none 0 0)).setCell ⟨w.heap.size, 8, none⟩ (.int .i64 0)).setCell ⟨w.heap.size, 9, none⟩ (.int .i64 0)).setCell ⟨w.heap.size, 10, none⟩ (.int .i64 0)).setCell ⟨w.heap.size, 11, none⟩ (.int .i64 0)) = w9 := ⟨_, rfl⟩
    have hwh := all12 hx0 (.int .i64 15) (.int .i64 p) (.int .i64 q) (.int .u16 0) (.int .u16 0) (.int .u16 0) (.slice none 0 0) (.slice none 0 0) (.int .i64 0) (.int .i64 0) (.int .i64 0) (.int .i64 0) rfl
    have hbb := bel12 hxb (.int .i64 15) (.int .i64 p) (.int .i64 q) (.int .u16 0) (.int .u16 0) (.int .u16 0) (.slice none 0 0) (.slice none 0 0) (.int .i64 0) (.int .i64 0) (.int .i64 0) (.int .i64 0)
    rw [hw9] at hwh hbb
    rw [hw9]
    obtain ⟨he0, he1, he2, he3, he4, he5, he6, he7, he8, he9, he10, he11⟩ := cells12 hwh
    exact bodyPost_ret (v := .tuple #[.agg #[.int .i64 15, .int .i64 p, .int .i64 q, .int .u16 0, .int .u16 0, .int .u16 0, .slice none 0 0, .slice none 0 0, .int .i64 0, .int .i64 0, .int .i64 0, .int .i64 0], .bool false]) (by simp [results, Try.results23, go_sem, he0, he1, he2, he3, he4, he5, he6, he7, he8, he9, he10, he11]) rfl ⟨rfl, hbb.drew⟩

set_option maxRecDepth 100000 in
set_option maxHeartbeats 600000 in
theorem pfields_yes_16a (A : Option Addr) (n c : Nat) (zs : List Int) (w : World) (hr : Row .u8 w w.heap.size A n zs) (hx : Bytes8 zs) (hn : n ≤ 1000) (h1 : 1 ≤ n) (u p q : Int) (h0 : zs.getD 0 0 = 16) (hl : 5 < n) (hc : n ≤ c) (hcap : ¬ c = 6) (hu : zs.getD 5 0 = u) (hq : (n : Int) = 6 + u) (hp : gotW zs n 1 = p) (hq : gotW zs n 3 = q) (k : Nat) (hk : q = (k : Int)) (hkn : u = 2 * (k : Int)) :
    Calls Try.prog 23 #[.slice A n c] w fun e w' => ∃ G g, e = .returned (.tuple #[.agg #[.int .i64 16, .int .i64 p, .int .i64 q, .int .u16 0, .int .u16 0, .int .u16 0, .slice none 0 0, .slice G k g, .int .i64 0, .int .i64 0, .int .i64 0, .int .i64 0], .bool true]) ∧ w'.ownsRow w.heap.size 26 1 (.slice G k g) k ((wordsAt (zs.drop 6) 0 k).map (Value.int .u16)) ∧ Below w.heap.size w w' := by
  obtain ⟨lop, hip⟩ := gotW_bounds hx n 1
  rw [hp] at lop hip
  obtain ⟨loq, hiq⟩ := gotW_bounds hx n 3
  rw [hq] at loq hiq
  obtain ⟨lou, hiu⟩ := hx.at_ 5
  change 0 ≤ zs.getD 5 0 at lou
  change zs.getD 5 0 ≤ 255 at hiu
  rw [hu] at lou hiu
  obtain ⟨t, ht⟩ : ∃ t : Nat, (t : Int) = u := ⟨u.toNat, by omega⟩
  subst ht
  have hnt : n = 6 + t := by omega
  subst hnt
  have hct : 6 < c := by omega
  obtain ⟨b, off, rfl, hb, hcell⟩ := hr.2 (by omega)
  have hc0 : (w.alloc (.cells #[.int .i64 0, .int .i64 0, .int .i64 0, .int .u16 0, .int .u16 0, .int .u16 0, .slice none 0 0, .slice none 0 0, .int .i64 0, .int .i64 0, .int .i64 0, .int .i64 0] 30)).cell? ⟨b, off, none⟩ = some (.int .u8 16) := by
    rw [World.cell?_alloc_lt w _ ⟨b, off, none⟩ hb]
    have := hcell 0 (by omega)
    rw [Nat.add_zero, h0] at this
    exact this
  have hn0 : (0 : Int) < (((6 + t) : Nat) : Int) := by omega
  have hkw : Below w.heap.size w ((w.alloc (.cells #[.int .i64 0, .int .i64 0, .int .i64 0, .int .u16 0, .int .u16 0, .int .u16 0, .slice none 0 0, .slice none 0 0, .int .i64 0, .int .i64 0, .int .i64 0, .int .i64 0] 30)).alloc (.cells #[.int .i64 16, .int .i64 0, .int .i64 0, .int .u16 0, .int .u16 0, .int .u16 0, .slice none 0 0, .slice none 0 0, .int .i64 0, .int .i64 0, .int .i64 0, .int .i64 0] 30)) := ((Below.refl _ _).alloc (Nat.le_refl _) _).alloc (by simp) _
  have HR := Lib.hid ((hr.below hkw).more hkw.size)
  have HX := Lib.hid hx
  have HKW := Lib.hid hkw
  have HG4 : Hid (WholeV ((w.alloc (.cells #[.int .i64 0, .int .i64 0, .int .i64 0, .int .u16 0, .int .u16 0, .int .u16 0, .slice none 0 0, .slice none 0 0, .int .i64 0, .int .i64 0, .int .i64 0, .int .i64 0] 30)).alloc (.cells #[.int .i64 16, .int .i64 0, .int .i64 0, .int .u16 0, .int .u16 0, .int .u16 0, .slice none 0 0, .slice none 0 0, .int .i64 0, .int .i64 0, .int .i64 0, .int .i64 0] 30)) (w.heap.size + 1) 30 [.int .i64 16, .int .i64 0, .int .i64 0, .int .u16 0, .int .u16 0, .int .u16 0, .slice none 0 0, .slice none 0 0, .int .i64 0, .int .i64 0, .int .i64 0, .int .i64 0]) := by
    have h := heap_alloc_new (w.alloc (.cells #[.int .i64 0, .int .i64 0, .int .i64 0, .int .u16 0, .int .u16 0, .int .u16 0, .slice none 0 0, .slice none 0 0, .int .i64 0, .int .i64 0, .int .i64 0, .int .i64 0] 30)) (.cells #[.int .i64 16, .int .i64 0, .int .i64 0, .int .u16 0, .int .u16 0, .int .u16 0, .slice none 0 0, .slice none 0 0, .int .i64 0, .int .i64 0, .int .i64 0, .int .i64 0] 30)
    rwa [show (w.alloc (.cells #[.int .i64 0, .int .i64 0, .int .i64 0, .int .u16 0, .int .u16 0, .int .u16 0, .slice none 0 0, .slice none 0 0, .int .i64 0, .int .i64 0, .int .i64 0, .int .i64 0] 30)).heap.size = w.heap.size + 1 by simp] at h
  have HG2 : Hid (WholeV ((w.alloc (.cells #[.int .i64 0, .int .i64 0, .int .i64 0, .int .u16 0, .int .u16 0, .int .u16 0, .slice none 0 0, .slice none 0 0, .int .i64 0, .int .i64 0, .int .i64 0, .int .i64 0] 30)).alloc (.cells #[.int .i64 16, .int .i64 0, .int .i64 0, .int .u16 0, .int .u16 0, .int .u16 0, .slice none 0 0, .slice none 0 0, .int .i64 0, .int .i64 0, .int .i64 0, .int .i64 0] 30)) w.heap.size 30 [.int .i64 0, .int .i64 0, .int .i64 0, .int .u16 0, .int .u16 0, .int .u16 0, .slice none 0 0, .slice none 0 0, .int .i64 0, .int .i64 0, .int .i64 0, .int .i64 0]) := by
    have h : WholeV (w.alloc (.cells #[.int .i64 0, .int .i64 0, .int .i64 0, .int .u16 0, .int .u16 0, .int .u16 0, .slice none 0 0, .slice none 0 0, .int .i64 0, .int .i64 0, .int .i64 0, .int .i64 0] 30)) w.heap.size 30 [.int .i64 0, .int .i64 0, .int .i64 0, .int .u16 0, .int .u16 0, .int .u16 0, .slice none 0 0, .slice none 0 0, .int .i64 0, .int .i64 0, .int .i64 0, .int .i64 0] := heap_alloc_new w _
    exact h.below ((Below.refl _ _).alloc (Nat.le_refl _) _) (by simp)
  have HT : Hid (∀ X, Below w.heap.size w X → Row .u8 X X.heap.size (some ⟨b, off + 6, none⟩) t (zs.drop 6)) := fun X hX => ((hr.below hX).more hX.size).tail rfl
  clear hr hx hcell hkw
  have H0 := Lib.hid h0
  have HU := Lib.hid hu
  clear h0 hu hq
  have Hp := Lib.hid hp
  have Hq := Lib.hid hq
  clear hp hq
  have HK := Lib.hid hk
  have HKN := Lib.hid hkn
  have hkb : k ≤ 1000 := by omega
  clear hk hkn
  go_enter Try.func23, Try.ntmps23
  go_wp2_with (first
    | (go_at_call 42; refine (psize_many _ (6 + t) c zs _ 16 5 (t : Int) HR.out HX.out (by omega) (by omega) H0.out (by omega) (by omega) HU.out).mono ?_; rintro e w' ⟨rfl, rfl⟩; rw [show ((5 : Nat) : Int) + 1 + (t : Int) = (((6 + t) : Nat) : Int) by omega])
    | (go_at_call 43; refine (pair_other _ _ (by omega)).mono ?_; rintro e w' ⟨rfl, rfl⟩)
    | (go_at_call 44; (with_reducible refine (pnumber_any (some ⟨b, off, none⟩) (6 + t) c zs 1 p _ Hp.out (HR.out.drewN _) HX.out (by omega)).mono ?_); rintro e w' ⟨rfl, d1, rfl⟩)
    | (go_at_call 44; (with_reducible refine (pnumber_any (some ⟨b, off, none⟩) (6 + t) c zs 1 p _ Hp.out HR.out HX.out (by omega)).mono ?_); rintro e w' ⟨rfl, d1, rfl⟩)
    | (go_at_call 44; (with_reducible refine (pnumber_any (some ⟨b, off, none⟩) (6 + t) c zs 3 q _ Hq.out (HR.out.drewN _) HX.out (by omega)).mono ?_); rintro e w' ⟨rfl, d3, rfl⟩)
    | (go_at_call 44; (with_reducible refine (pnumber_any (some ⟨b, off, none⟩) (6 + t) c zs 3 q _ Hq.out HR.out HX.out (by omega)).mono ?_); rintro e w' ⟨rfl, d3, rfl⟩))
  obtain ⟨w3, hw3⟩ : ∃ w3, (((((w.alloc (.cells #[.int .i64 0, .int .i64 0, .int .i64 0, .int .u16 0, .int .u16 0, .int .u16 0, .slice none 0 0, .slice none 0 0, .int .i64 0, .int .i64 0, .int .i64 0, .int .i64 0] 30)).alloc (.cells #[.int .i64 16, .int .i64 0, .int .i64 0, .int .u16 0, .int .u16 0, .int .u16 0, .slice none 0 0, .slice none 0 0, .int .i64 0, .int .i64 0, .int .i64 0, .int .i64 0] 30)).drewN (d1 + d3)).setCell ⟨w.heap.size + 1, 1, none⟩ (.int .i64 p)).setCell ⟨w.heap.size + 1, 2, none⟩ (.int .i64 q)) = w3 := ⟨_, rfl⟩
  have hxa : Below (w.heap.size + 1) ((w.alloc (.cells #[.int .i64 0, .int .i64 0, .int .i64 0, .int .u16 0, .int .u16 0, .int .u16 0, .slice none 0 0, .slice none 0 0, .int .i64 0, .int .i64 0, .int .i64 0, .int .i64 0] 30)).alloc (.cells #[.int .i64 16, .int .i64 0, .int .i64 0, .int .u16 0, .int .u16 0, .int .u16 0, .slice none 0 0, .slice none 0 0, .int .i64 0, .int .i64 0, .int .i64 0, .int .i64 0] 30)) w3 := by rw [← hw3]; exact (((below_drewN (Below.refl (w.heap.size + 1) _) (d1 + d3)).setCell (p := ⟨w.heap.size + 1, 1, none⟩) (Nat.le_refl _) (.int .i64 p)).setCell (p := ⟨w.heap.size + 1, 2, none⟩) (Nat.le_refl _) (.int .i64 q))
  have ha4 : WholeV w3 (w.heap.size + 1) 30 [.int .i64 16, .int .i64 p, .int .i64 q, .int .u16 0, .int .u16 0, .int .u16 0, .slice none 0 0, .slice none 0 0, .int .i64 0, .int .i64 0, .int .i64 0, .int .i64 0] := by rw [← hw3]; exact (((HG4.out.drewN (d1 + d3)).set 1 (.int .i64 p)).set 2 (.int .i64 q))
  have ha2 : WholeV w3 w.heap.size 30 [.int .i64 0, .int .i64 0, .int .i64 0, .int .u16 0, .int .u16 0, .int .u16 0, .slice none 0 0, .slice none 0 0, .int .i64 0, .int .i64 0, .int .i64 0, .int .i64 0] := HG2.out.below hxa (Nat.lt_succ_self _)
  have hab : Below w.heap.size w w3 := HKW.out.trans (hxa.mono (Nat.le_succ _))
  have hz3 : w.heap.size + 2 ≤ w3.heap.size := ha4.lt
  rw [hw3]
  have HA4 := Lib.hid ha4
  have HA2 := Lib.hid ha2
  have HAB := Lib.hid hab
  have HT3 := Lib.hid (HT.out _ hab)
  obtain ⟨hq0, hq1, hq2, hq3, hq4, hq5, hq6, hq7, hq8, hq9, hq10, hq11⟩ := cells12 ha4
  clear hw3 hxa ha4 ha2 hab HG4 HG2 HKW
  go_region_with (first
      | (go_at_call 47
         (with_reducible refine (punpacked_yes _ k t _ q (zs.drop 6) _ (by have := HKN.out; omega) HK.out (HT3.out.drewN 1) (HX.out.drop 6) (by omega)).mono ?_)
         rintro e w5 ⟨rfl, ho5, hb5⟩
         have hb5' : Below w3.heap.size w3 w5 := below_from (d := 1) hb5
         have h1 := HA4.out.below hb5' (show w.heap.size + 1 < w3.heap.size by omega)
         have h0 := HA2.out.below hb5' (show w.heap.size < w3.heap.size by omega)
         have HB5 : Hid (Below w.heap.size w w5) := HAB.out.trans (hb5'.mono HAB.out.size)
         obtain ⟨hs0, hs1, hs2, hs3, hs4, hs5, hs6, hs7, hs8, hs9, hs10, hs11⟩ := cells12 h1
         obtain ⟨hp0, hp1, hp2, hp3, hp4, hp5, hp6, hp7, hp8, hp9, hp10, hp11⟩ := cells12 h0
         have hf0 := h1.frozen 0
         have hg0 := h0.frozen 0
         have hf1 := h1.frozen 1
         have hg1 := h0.frozen 1
         have hf2 := h1.frozen 2
         have hg2 := h0.frozen 2
         have hf3 := h1.frozen 3
         have hg3 := h0.frozen 3
         have hf4 := h1.frozen 4
         have hg4 := h0.frozen 4
         have hf5 := h1.frozen 5
         have hg5 := h0.frozen 5
         have hf6 := h1.frozen 6
         have hg6 := h0.frozen 6
         have hf7 := h1.frozen 7
         have hg7 := h0.frozen 7
         have hf8 := h1.frozen 8
         have hg8 := h0.frozen 8
         have hf9 := h1.frozen 9
         have hg9 := h0.frozen 9
         have hf10 := h1.frozen 10
         have hg10 := h0.frozen 10
         have hf11 := h1.frozen 11
         have hg11 := h0.frozen 11
         have hz5 : w.heap.size + 2 ≤ w5.heap.size := h1.lt
         have HH1 := Lib.hid h1
         have HH0 := Lib.hid h0
         have HO5 := Lib.hid ho5
         clear h1 h0 hb5 hb5' ho5))
  all_goals
    go_wp2
    obtain ⟨X, hX⟩ : ∃ X, (w5.setCell ⟨w.heap.size + 1, 7, none⟩ (.slice (some ⟨w3.heap.size, 0, none⟩) k k)) = X := ⟨_, rfl⟩
    have hx0 : WholeV X w.heap.size 30 [.int .i64 0, .int .i64 0, .int .i64 0, .int .u16 0, .int .u16 0, .int .u16 0, .slice none 0 0, .slice none 0 0, .int .i64 0, .int .i64 0, .int .i64 0, .int .i64 0] := by rw [← hX]; exact HH0.out.below ((Below.refl (w.heap.size + 1) _).setCell (p := ⟨w.heap.size + 1, 7, none⟩) (Nat.le_refl _) _) (Nat.lt_succ_self _)
    have hxb : Below w.heap.size w X := by rw [← hX]; exact HB5.out.setCell (p := ⟨w.heap.size + 1, 7, none⟩) (Nat.le_succ _) _
    have hox : X.ownsRow w3.heap.size 26 1 (.slice (some ⟨w3.heap.size, 0, none⟩) k k) k ((wordsAt (zs.drop 6) 0 k).map (Value.int .u16)) := by rw [← hX]; exact own_far (own_of_whole HO5.out (Nat.le_refl _) (by simp [unb_length, wordsAt_length]) (by omega)) ⟨w.heap.size + 1, 7, none⟩ (show w.heap.size + 1 < w3.heap.size by omega) _
    rw [hX]
    obtain ⟨w9, hw9⟩ : ∃ w9, ((((((((((((X.setCell ⟨w.heap.size, 0, none⟩ (.int .i64 16)).setCell ⟨w.heap.size, 1, none⟩ (.int .i64 p)).setCell ⟨w.heap.size, 2, none⟩ (.int .i64 q)).setCell ⟨w.heap.size, 3, none⟩ (.int .u16 0)).setCell ⟨w.heap.size, 4, none⟩ (.int .u16 0)).setCell ⟨w.heap.size, 5, none⟩ (.int .u16 0)).setCell ⟨w.heap.size, 6, none⟩ (.slice none 0 0)).setCell ⟨w.heap.size, 7, none⟩ (.slice (some ⟨w3.heap.size, 0, none⟩) k k)).setCell ⟨w.heap.size, 8, none⟩ (.int .i64 0)).setCell ⟨w.heap.size, 9, none⟩ (.int .i64 0)).setCell ⟨w.heap.size, 10, none⟩ (.int .i64 0)).setCell ⟨w.heap.size, 11, none⟩ (.int .i64 0)) = w9 := ⟨_, rfl⟩
    have hwh := all12 hx0 (.int .i64 16) (.int .i64 p) (.int .i64 q) (.int .u16 0) (.int .u16 0) (.int .u16 0) (.slice none 0 0) (.slice (some ⟨w3.heap.size, 0, none⟩) k k) (.int .i64 0) (.int .i64 0) (.int .i64 0) (.int .i64 0) rfl
    have hbb := bel12 hxb (.int .i64 16) (.int .i64 p) (.int .i64 q) (.int .u16 0) (.int .u16 0) (.int .u16 0) (.slice none 0 0) (.slice (some ⟨w3.heap.size, 0, none⟩) k k) (.int .i64 0) (.int .i64 0) (.int .i64 0) (.int .i64 0)
    have ho9 : w9.ownsRow w3.heap.size 26 1 (.slice (some ⟨w3.heap.size, 0, none⟩) k k) k ((wordsAt (zs.drop 6) 0 k).map (Value.int .u16)) := by rw [← hw9]; exact (own_far (own_far (own_far (own_far (own_far (own_far (own_far (own_far (own_far (own_far (own_far (own_far hox ⟨w.heap.size, 0, none⟩ (show w.heap.size < w3.heap.size by omega) (.int .i64 16)) ⟨w.heap.size, 1, none⟩ (show w.heap.size < w3.heap.size by omega) (.int .i64 p)) ⟨w.heap.size, 2, none⟩ (show w.heap.size < w3.heap.size by omega) (.int .i64 q)) ⟨w.heap.size, 3, none⟩ (show w.heap.size < w3.heap.size by omega) (.int .u16 0)) ⟨w.heap.size, 4, none⟩ (show w.heap.size < w3.heap.size by omega) (.int .u16 0)) ⟨w.heap.size, 5, none⟩ (show w.heap.size < w3.heap.size by omega) (.int .u16 0)) ⟨w.heap.size, 6, none⟩ (show w.heap.size < w3.heap.size by omega) (.slice none 0 0)) ⟨w.heap.size, 7, none⟩ (show w.heap.size < w3.heap.size by omega) (.slice (some ⟨w3.heap.size, 0, none⟩) k k)) ⟨w.heap.size, 8, none⟩ (show w.heap.size < w3.heap.size by omega) (.int .i64 0)) ⟨w.heap.size, 9, none⟩ (show w.heap.size < w3.heap.size by omega) (.int .i64 0)) ⟨w.heap.size, 10, none⟩ (show w.heap.size < w3.heap.size by omega) (.int .i64 0)) ⟨w.heap.size, 11, none⟩ (show w.heap.size < w3.heap.size by omega) (.int .i64 0))
    rw [hw9] at hwh hbb
    rw [hw9]
    obtain ⟨he0, he1, he2, he3, he4, he5, he6, he7, he8, he9, he10, he11⟩ := cells12 hwh
    exact bodyPost_ret (v := .tuple #[.agg #[.int .i64 16, .int .i64 p, .int .i64 q, .int .u16 0, .int .u16 0, .int .u16 0, .slice none 0 0, .slice (some ⟨w3.heap.size, 0, none⟩) k k, .int .i64 0, .int .i64 0, .int .i64 0, .int .i64 0], .bool true]) (by simp [results, Try.results23, go_sem, he0, he1, he2, he3, he4, he5, he6, he7, he8, he9, he10, he11]) rfl ⟨_, _, rfl, own_mono ho9 HAB.out.size, hbb⟩

set_option maxRecDepth 100000 in
set_option maxHeartbeats 600000 in
theorem pfields_yes_16b (A : Option Addr) (n c : Nat) (zs : List Int) (w : World) (hr : Row .u8 w w.heap.size A n zs) (hx : Bytes8 zs) (hn : n ≤ 1000) (h1 : 1 ≤ n) (u p q : Int) (h0 : zs.getD 0 0 = 16) (hl : 5 < n) (hc : n ≤ c) (hcap : c = 6) (hu : zs.getD 5 0 = u) (hq : (n : Int) = 6 + u) (hp : gotW zs n 1 = p) (hq : gotW zs n 3 = q) (k : Nat) (hk : q = (k : Int)) (hkn : u = 2 * (k : Int)) :
    Calls Try.prog 23 #[.slice A n c] w fun e w' => ∃ G g, e = .returned (.tuple #[.agg #[.int .i64 16, .int .i64 p, .int .i64 q, .int .u16 0, .int .u16 0, .int .u16 0, .slice none 0 0, .slice G k g, .int .i64 0, .int .i64 0, .int .i64 0, .int .i64 0], .bool true]) ∧ w'.ownsRow w.heap.size 26 1 (.slice G k g) k ((wordsAt (zs.drop 6) 0 k).map (Value.int .u16)) ∧ Below w.heap.size w w' := by
  obtain ⟨lop, hip⟩ := gotW_bounds hx n 1
  rw [hp] at lop hip
  obtain ⟨loq, hiq⟩ := gotW_bounds hx n 3
  rw [hq] at loq hiq
  obtain ⟨lou, hiu⟩ := hx.at_ 5
  change 0 ≤ zs.getD 5 0 at lou
  change zs.getD 5 0 ≤ 255 at hiu
  rw [hu] at lou hiu
  subst hcap
  obtain rfl : n = 6 := by omega
  obtain rfl : u = 0 := by omega
  obtain ⟨b, off, rfl, hb, hcell⟩ := hr.2 (by omega)
  have hc0 : (w.alloc (.cells #[.int .i64 0, .int .i64 0, .int .i64 0, .int .u16 0, .int .u16 0, .int .u16 0, .slice none 0 0, .slice none 0 0, .int .i64 0, .int .i64 0, .int .i64 0, .int .i64 0] 30)).cell? ⟨b, off, none⟩ = some (.int .u8 16) := by
    rw [World.cell?_alloc_lt w _ ⟨b, off, none⟩ hb]
    have := hcell 0 (by omega)
    rw [Nat.add_zero, h0] at this
    exact this
  have hn0 : (0 : Int) < ((6 : Nat) : Int) := by omega
  have hkw : Below w.heap.size w ((w.alloc (.cells #[.int .i64 0, .int .i64 0, .int .i64 0, .int .u16 0, .int .u16 0, .int .u16 0, .slice none 0 0, .slice none 0 0, .int .i64 0, .int .i64 0, .int .i64 0, .int .i64 0] 30)).alloc (.cells #[.int .i64 16, .int .i64 0, .int .i64 0, .int .u16 0, .int .u16 0, .int .u16 0, .slice none 0 0, .slice none 0 0, .int .i64 0, .int .i64 0, .int .i64 0, .int .i64 0] 30)) := ((Below.refl _ _).alloc (Nat.le_refl _) _).alloc (by simp) _
  have HR := Lib.hid ((hr.below hkw).more hkw.size)
  have HX := Lib.hid hx
  have HKW := Lib.hid hkw
  have HG4 : Hid (WholeV ((w.alloc (.cells #[.int .i64 0, .int .i64 0, .int .i64 0, .int .u16 0, .int .u16 0, .int .u16 0, .slice none 0 0, .slice none 0 0, .int .i64 0, .int .i64 0, .int .i64 0, .int .i64 0] 30)).alloc (.cells #[.int .i64 16, .int .i64 0, .int .i64 0, .int .u16 0, .int .u16 0, .int .u16 0, .slice none 0 0, .slice none 0 0, .int .i64 0, .int .i64 0, .int .i64 0, .int .i64 0] 30)) (w.heap.size + 1) 30 [.int .i64 16, .int .i64 0, .int .i64 0, .int .u16 0, .int .u16 0, .int .u16 0, .slice none 0 0, .slice none 0 0, .int .i64 0, .int .i64 0, .int .i64 0, .int .i64 0]) := by
    have h := heap_alloc_new (w.alloc (.cells #[.int .i64 0, .int .i64 0, .int .i64 0, .int .u16 0, .int .u16 0, .int .u16 0, .slice none 0 0, .slice none 0 0, .int .i64 0, .int .i64 0, .int .i64 0, .int .i64 0] 30)) (.cells #[.int .i64 16, .int .i64 0, .int .i64 0, .int .u16 0, .int .u16 0, .int .u16 0, .slice none 0 0, .slice none 0 0, .int .i64 0, .int .i64 0, .int .i64 0, .int .i64 0] 30)
    rwa [show (w.alloc (.cells #[.int .i64 0, .int .i64 0, .int .i64 0, .int .u16 0, .int .u16 0, .int .u16 0, .slice none 0 0, .slice none 0 0, .int .i64 0, .int .i64 0, .int .i64 0, .int .i64 0] 30)).heap.size = w.heap.size + 1 by simp] at h
  have HG2 : Hid (WholeV ((w.alloc (.cells #[.int .i64 0, .int .i64 0, .int .i64 0, .int .u16 0, .int .u16 0, .int .u16 0, .slice none 0 0, .slice none 0 0, .int .i64 0, .int .i64 0, .int .i64 0, .int .i64 0] 30)).alloc (.cells #[.int .i64 16, .int .i64 0, .int .i64 0, .int .u16 0, .int .u16 0, .int .u16 0, .slice none 0 0, .slice none 0 0, .int .i64 0, .int .i64 0, .int .i64 0, .int .i64 0] 30)) w.heap.size 30 [.int .i64 0, .int .i64 0, .int .i64 0, .int .u16 0, .int .u16 0, .int .u16 0, .slice none 0 0, .slice none 0 0, .int .i64 0, .int .i64 0, .int .i64 0, .int .i64 0]) := by
    have h : WholeV (w.alloc (.cells #[.int .i64 0, .int .i64 0, .int .i64 0, .int .u16 0, .int .u16 0, .int .u16 0, .slice none 0 0, .slice none 0 0, .int .i64 0, .int .i64 0, .int .i64 0, .int .i64 0] 30)) w.heap.size 30 [.int .i64 0, .int .i64 0, .int .i64 0, .int .u16 0, .int .u16 0, .int .u16 0, .slice none 0 0, .slice none 0 0, .int .i64 0, .int .i64 0, .int .i64 0, .int .i64 0] := heap_alloc_new w _
    exact h.below ((Below.refl _ _).alloc (Nat.le_refl _) _) (by simp)
  have HT : Hid (∀ X, Below w.heap.size w X → Row .u8 X X.heap.size (some ⟨b, off, none⟩) 0 (zs.drop 6)) := fun X hX => row_none hr.1
  clear hr hx hcell hkw
  have H0 := Lib.hid h0
  have HU := Lib.hid hu
  clear h0 hu hq
  have Hp := Lib.hid hp
  have Hq := Lib.hid hq
  clear hp hq
  have HK := Lib.hid hk
  have HKN := Lib.hid hkn
  have hkb : k ≤ 1000 := by omega
  clear hk hkn
  go_enter Try.func23, Try.ntmps23
  go_wp2_with (first
    | (go_at_call 42; refine (psize_many _ 6 6 zs _ 16 5 0 HR.out HX.out (by omega) (by omega) H0.out (by omega) (by omega) HU.out).mono ?_; rintro e w' ⟨rfl, rfl⟩; rw [show ((5 : Nat) : Int) + 1 + 0 = 6 by omega])
    | (go_at_call 43; refine (pair_other _ _ (by omega)).mono ?_; rintro e w' ⟨rfl, rfl⟩)
    | (go_at_call 44; (with_reducible refine (pnumber_any (some ⟨b, off, none⟩) 6 6 zs 1 p _ Hp.out (HR.out.drewN _) HX.out (by omega)).mono ?_); rintro e w' ⟨rfl, d1, rfl⟩)
    | (go_at_call 44; (with_reducible refine (pnumber_any (some ⟨b, off, none⟩) 6 6 zs 1 p _ Hp.out HR.out HX.out (by omega)).mono ?_); rintro e w' ⟨rfl, d1, rfl⟩)
    | (go_at_call 44; (with_reducible refine (pnumber_any (some ⟨b, off, none⟩) 6 6 zs 3 q _ Hq.out (HR.out.drewN _) HX.out (by omega)).mono ?_); rintro e w' ⟨rfl, d3, rfl⟩)
    | (go_at_call 44; (with_reducible refine (pnumber_any (some ⟨b, off, none⟩) 6 6 zs 3 q _ Hq.out HR.out HX.out (by omega)).mono ?_); rintro e w' ⟨rfl, d3, rfl⟩))
  obtain ⟨w3, hw3⟩ : ∃ w3, (((((w.alloc (.cells #[.int .i64 0, .int .i64 0, .int .i64 0, .int .u16 0, .int .u16 0, .int .u16 0, .slice none 0 0, .slice none 0 0, .int .i64 0, .int .i64 0, .int .i64 0, .int .i64 0] 30)).alloc (.cells #[.int .i64 16, .int .i64 0, .int .i64 0, .int .u16 0, .int .u16 0, .int .u16 0, .slice none 0 0, .slice none 0 0, .int .i64 0, .int .i64 0, .int .i64 0, .int .i64 0] 30)).drewN (d1 + d3)).setCell ⟨w.heap.size + 1, 1, none⟩ (.int .i64 p)).setCell ⟨w.heap.size + 1, 2, none⟩ (.int .i64 q)) = w3 := ⟨_, rfl⟩
  have hxa : Below (w.heap.size + 1) ((w.alloc (.cells #[.int .i64 0, .int .i64 0, .int .i64 0, .int .u16 0, .int .u16 0, .int .u16 0, .slice none 0 0, .slice none 0 0, .int .i64 0, .int .i64 0, .int .i64 0, .int .i64 0] 30)).alloc (.cells #[.int .i64 16, .int .i64 0, .int .i64 0, .int .u16 0, .int .u16 0, .int .u16 0, .slice none 0 0, .slice none 0 0, .int .i64 0, .int .i64 0, .int .i64 0, .int .i64 0] 30)) w3 := by rw [← hw3]; exact (((below_drewN (Below.refl (w.heap.size + 1) _) (d1 + d3)).setCell (p := ⟨w.heap.size + 1, 1, none⟩) (Nat.le_refl _) (.int .i64 p)).setCell (p := ⟨w.heap.size + 1, 2, none⟩) (Nat.le_refl _) (.int .i64 q))
  have ha4 : WholeV w3 (w.heap.size + 1) 30 [.int .i64 16, .int .i64 p, .int .i64 q, .int .u16 0, .int .u16 0, .int .u16 0, .slice none 0 0, .slice none 0 0, .int .i64 0, .int .i64 0, .int .i64 0, .int .i64 0] := by rw [← hw3]; exact (((HG4.out.drewN (d1 + d3)).set 1 (.int .i64 p)).set 2 (.int .i64 q))
  have ha2 : WholeV w3 w.heap.size 30 [.int .i64 0, .int .i64 0, .int .i64 0, .int .u16 0, .int .u16 0, .int .u16 0, .slice none 0 0, .slice none 0 0, .int .i64 0, .int .i64 0, .int .i64 0, .int .i64 0] := HG2.out.below hxa (Nat.lt_succ_self _)
  have hab : Below w.heap.size w w3 := HKW.out.trans (hxa.mono (Nat.le_succ _))
  have hz3 : w.heap.size + 2 ≤ w3.heap.size := ha4.lt
  rw [hw3]
  have HA4 := Lib.hid ha4
  have HA2 := Lib.hid ha2
  have HAB := Lib.hid hab
  have HT3 := Lib.hid (HT.out _ hab)
  obtain ⟨hq0, hq1, hq2, hq3, hq4, hq5, hq6, hq7, hq8, hq9, hq10, hq11⟩ := cells12 ha4
  clear hw3 hxa ha4 ha2 hab HG4 HG2 HKW
  go_region_with (first
      | (go_at_call 47
         (with_reducible refine (punpacked_yes _ k 0 _ q (zs.drop 6) _ (by have := HKN.out; omega) HK.out (HT3.out.drewN 1) (HX.out.drop 6) (by omega)).mono ?_)
         rintro e w5 ⟨rfl, ho5, hb5⟩
         have hb5' : Below w3.heap.size w3 w5 := below_from (d := 1) hb5
         have h1 := HA4.out.below hb5' (show w.heap.size + 1 < w3.heap.size by omega)
         have h0 := HA2.out.below hb5' (show w.heap.size < w3.heap.size by omega)
         have HB5 : Hid (Below w.heap.size w w5) := HAB.out.trans (hb5'.mono HAB.out.size)
         obtain ⟨hs0, hs1, hs2, hs3, hs4, hs5, hs6, hs7, hs8, hs9, hs10, hs11⟩ := cells12 h1
         obtain ⟨hp0, hp1, hp2, hp3, hp4, hp5, hp6, hp7, hp8, hp9, hp10, hp11⟩ := cells12 h0
         have hf0 := h1.frozen 0
         have hg0 := h0.frozen 0
         have hf1 := h1.frozen 1
         have hg1 := h0.frozen 1
         have hf2 := h1.frozen 2
         have hg2 := h0.frozen 2
         have hf3 := h1.frozen 3
         have hg3 := h0.frozen 3
         have hf4 := h1.frozen 4
         have hg4 := h0.frozen 4
         have hf5 := h1.frozen 5
         have hg5 := h0.frozen 5
         have hf6 := h1.frozen 6
         have hg6 := h0.frozen 6
         have hf7 := h1.frozen 7
         have hg7 := h0.frozen 7
         have hf8 := h1.frozen 8
         have hg8 := h0.frozen 8
         have hf9 := h1.frozen 9
         have hg9 := h0.frozen 9
         have hf10 := h1.frozen 10
         have hg10 := h0.frozen 10
         have hf11 := h1.frozen 11
         have hg11 := h0.frozen 11
         have hz5 : w.heap.size + 2 ≤ w5.heap.size := h1.lt
         have HH1 := Lib.hid h1
         have HH0 := Lib.hid h0
         have HO5 := Lib.hid ho5
         clear h1 h0 hb5 hb5' ho5))
  all_goals
    go_wp2
    obtain ⟨X, hX⟩ : ∃ X, (w5.setCell ⟨w.heap.size + 1, 7, none⟩ (.slice (some ⟨w3.heap.size, 0, none⟩) k k)) = X := ⟨_, rfl⟩
    have hx0 : WholeV X w.heap.size 30 [.int .i64 0, .int .i64 0, .int .i64 0, .int .u16 0, .int .u16 0, .int .u16 0, .slice none 0 0, .slice none 0 0, .int .i64 0, .int .i64 0, .int .i64 0, .int .i64 0] := by rw [← hX]; exact HH0.out.below ((Below.refl (w.heap.size + 1) _).setCell (p := ⟨w.heap.size + 1, 7, none⟩) (Nat.le_refl _) _) (Nat.lt_succ_self _)
    have hxb : Below w.heap.size w X := by rw [← hX]; exact HB5.out.setCell (p := ⟨w.heap.size + 1, 7, none⟩) (Nat.le_succ _) _
    have hox : X.ownsRow w3.heap.size 26 1 (.slice (some ⟨w3.heap.size, 0, none⟩) k k) k ((wordsAt (zs.drop 6) 0 k).map (Value.int .u16)) := by rw [← hX]; exact own_far (own_of_whole HO5.out (Nat.le_refl _) (by simp [unb_length, wordsAt_length]) (by omega)) ⟨w.heap.size + 1, 7, none⟩ (show w.heap.size + 1 < w3.heap.size by omega) _
    rw [hX]
    obtain ⟨w9, hw9⟩ : ∃ w9, ((((((((((((X.setCell ⟨w.heap.size, 0, none⟩ (.int .i64 16)).setCell ⟨w.heap.size, 1, none⟩ (.int .i64 p)).setCell ⟨w.heap.size, 2, none⟩ (.int .i64 q)).setCell ⟨w.heap.size, 3, none⟩ (.int .u16 0)).setCell ⟨w.heap.size, 4, none⟩ (.int .u16 0)).setCell ⟨w.heap.size, 5, none⟩ (.int .u16 0)).setCell ⟨w.heap.size, 6, none⟩ (.slice none 0 0)).setCell ⟨w.heap.size, 7, none⟩ (.slice (some ⟨w3.heap.size, 0, none⟩) k k)).setCell ⟨w.heap.size, 8, none⟩ (.int .i64 0)).setCell ⟨w.heap.size, 9, none⟩ (.int .i64 0)).setCell ⟨w.heap.size, 10, none⟩ (.int .i64 0)).setCell ⟨w.heap.size, 11, none⟩ (.int .i64 0)) = w9 := ⟨_, rfl⟩
    have hwh := all12 hx0 (.int .i64 16) (.int .i64 p) (.int .i64 q) (.int .u16 0) (.int .u16 0) (.int .u16 0) (.slice none 0 0) (.slice (some ⟨w3.heap.size, 0, none⟩) k k) (.int .i64 0) (.int .i64 0) (.int .i64 0) (.int .i64 0) rfl
    have hbb := bel12 hxb (.int .i64 16) (.int .i64 p) (.int .i64 q) (.int .u16 0) (.int .u16 0) (.int .u16 0) (.slice none 0 0) (.slice (some ⟨w3.heap.size, 0, none⟩) k k) (.int .i64 0) (.int .i64 0) (.int .i64 0) (.int .i64 0)
    have ho9 : w9.ownsRow w3.heap.size 26 1 (.slice (some ⟨w3.heap.size, 0, none⟩) k k) k ((wordsAt (zs.drop 6) 0 k).map (Value.int .u16)) := by rw [← hw9]; exact (own_far (own_far (own_far (own_far (own_far (own_far (own_far (own_far (own_far (own_far (own_far (own_far hox ⟨w.heap.size, 0, none⟩ (show w.heap.size < w3.heap.size by omega) (.int .i64 16)) ⟨w.heap.size, 1, none⟩ (show w.heap.size < w3.heap.size by omega) (.int .i64 p)) ⟨w.heap.size, 2, none⟩ (show w.heap.size < w3.heap.size by omega) (.int .i64 q)) ⟨w.heap.size, 3, none⟩ (show w.heap.size < w3.heap.size by omega) (.int .u16 0)) ⟨w.heap.size, 4, none⟩ (show w.heap.size < w3.heap.size by omega) (.int .u16 0)) ⟨w.heap.size, 5, none⟩ (show w.heap.size < w3.heap.size by omega) (.int .u16 0)) ⟨w.heap.size, 6, none⟩ (show w.heap.size < w3.heap.size by omega) (.slice none 0 0)) ⟨w.heap.size, 7, none⟩ (show w.heap.size < w3.heap.size by omega) (.slice (some ⟨w3.heap.size, 0, none⟩) k k)) ⟨w.heap.size, 8, none⟩ (show w.heap.size < w3.heap.size by omega) (.int .i64 0)) ⟨w.heap.size, 9, none⟩ (show w.heap.size < w3.heap.size by omega) (.int .i64 0)) ⟨w.heap.size, 10, none⟩ (show w.heap.size < w3.heap.size by omega) (.int .i64 0)) ⟨w.heap.size, 11, none⟩ (show w.heap.size < w3.heap.size by omega) (.int .i64 0))
    rw [hw9] at hwh hbb
    rw [hw9]
    obtain ⟨he0, he1, he2, he3, he4, he5, he6, he7, he8, he9, he10, he11⟩ := cells12 hwh
    exact bodyPost_ret (v := .tuple #[.agg #[.int .i64 16, .int .i64 p, .int .i64 q, .int .u16 0, .int .u16 0, .int .u16 0, .slice none 0 0, .slice (some ⟨w3.heap.size, 0, none⟩) k k, .int .i64 0, .int .i64 0, .int .i64 0, .int .i64 0], .bool true]) (by simp [results, Try.results23, go_sem, he0, he1, he2, he3, he4, he5, he6, he7, he8, he9, he10, he11]) rfl ⟨_, _, rfl, own_mono ho9 HAB.out.size, hbb⟩

set_option maxRecDepth 100000 in
set_option maxHeartbeats 600000 in
theorem pfields_bad_16a (A : Option Addr) (n c : Nat) (zs : List Int) (w : World) (hr : Row .u8 w w.heap.size A n zs) (hx : Bytes8 zs) (hn : n ≤ 1000) (h1 : 1 ≤ n) (u p q : Int) (h0 : zs.getD 0 0 = 16) (hl : 5 < n) (hc : n ≤ c) (hcap : ¬ c = 6) (hu : zs.getD 5 0 = u) (hq : (n : Int) = 6 + u) (hp : gotW zs n 1 = p) (hq : gotW zs n 3 = q) (hbad : ¬ u = q * 2) :
    Calls Try.prog 23 #[.slice A n c] w fun e w' => e = .returned (.tuple #[.agg #[.int .i64 16, .int .i64 p, .int .i64 q, .int .u16 0, .int .u16 0, .int .u16 0, .slice none 0 0, .slice none 0 0, .int .i64 0, .int .i64 0, .int .i64 0, .int .i64 0], .bool false]) ∧ Below w.heap.size w w' := by
  obtain ⟨lop, hip⟩ := gotW_bounds hx n 1
  rw [hp] at lop hip
  obtain ⟨loq, hiq⟩ := gotW_bounds hx n 3
  rw [hq] at loq hiq
  obtain ⟨lou, hiu⟩ := hx.at_ 5
  change 0 ≤ zs.getD 5 0 at lou
  change zs.getD 5 0 ≤ 255 at hiu
  rw [hu] at lou hiu
  obtain ⟨t, ht⟩ : ∃ t : Nat, (t : Int) = u := ⟨u.toNat, by omega⟩
  subst ht
  have hnt : n = 6 + t := by omega
  subst hnt
  have hct : 6 < c := by omega
  obtain ⟨b, off, rfl, hb, hcell⟩ := hr.2 (by omega)
  have hc0 : (w.alloc (.cells #[.int .i64 0, .int .i64 0, .int .i64 0, .int .u16 0, .int .u16 0, .int .u16 0, .slice none 0 0, .slice none 0 0, .int .i64 0, .int .i64 0, .int .i64 0, .int .i64 0] 30)).cell? ⟨b, off, none⟩ = some (.int .u8 16) := by
    rw [World.cell?_alloc_lt w _ ⟨b, off, none⟩ hb]
    have := hcell 0 (by omega)
    rw [Nat.add_zero, h0] at this
    exact this
  have hn0 : (0 : Int) < (((6 + t) : Nat) : Int) := by omega
  have hkw : Below w.heap.size w ((w.alloc (.cells #[.int .i64 0, .int .i64 0, .int .i64 0, .int .u16 0, .int .u16 0, .int .u16 0, .slice none 0 0, .slice none 0 0, .int .i64 0, .int .i64 0, .int .i64 0, .int .i64 0] 30)).alloc (.cells #[.int .i64 16, .int .i64 0, .int .i64 0, .int .u16 0, .int .u16 0, .int .u16 0, .slice none 0 0, .slice none 0 0, .int .i64 0, .int .i64 0, .int .i64 0, .int .i64 0] 30)) := ((Below.refl _ _).alloc (Nat.le_refl _) _).alloc (by simp) _
  have HR := Lib.hid ((hr.below hkw).more hkw.size)
  have HX := Lib.hid hx
  have HKW := Lib.hid hkw
  have HG4 : Hid (WholeV ((w.alloc (.cells #[.int .i64 0, .int .i64 0, .int .i64 0, .int .u16 0, .int .u16 0, .int .u16 0, .slice none 0 0, .slice none 0 0, .int .i64 0, .int .i64 0, .int .i64 0, .int .i64 0] 30)).alloc (.cells #[.int .i64 16, .int .i64 0, .int .i64 0, .int .u16 0, .int .u16 0, .int .u16 0, .slice none 0 0, .slice none 0 0, .int .i64 0, .int .i64 0, .int .i64 0, .int .i64 0] 30)) (w.heap.size + 1) 30 [.int .i64 16, .int .i64 0, .int .i64 0, .int .u16 0, .int .u16 0, .int .u16 0, .slice none 0 0, .slice none 0 0, .int .i64 0, .int .i64 0, .int .i64 0, .int .i64 0]) := by
    have h := heap_alloc_new (w.alloc (.cells #[.int .i64 0, .int .i64 0, .int .i64 0, .int .u16 0, .int .u16 0, .int .u16 0, .slice none 0 0, .slice none 0 0, .int .i64 0, .int .i64 0, .int .i64 0, .int .i64 0] 30)) (.cells #[.int .i64 16, .int .i64 0, .int .i64 0, .int .u16 0, .int .u16 0, .int .u16 0, .slice none 0 0, .slice none 0 0, .int .i64 0, .int .i64 0, .int .i64 0, .int .i64 0] 30)
    rwa [show (w.alloc (.cells #[.int .i64 0, .int .i64 0, .int .i64 0, .int .u16 0, .int .u16 0, .int .u16 0, .slice none 0 0, .slice none 0 0, .int .i64 0, .int .i64 0, .int .i64 0, .int .i64 0] 30)).heap.size = w.heap.size + 1 by simp] at h
  have HG2 : Hid (WholeV ((w.alloc (.cells #[.int .i64 0, .int .i64 0, .int .i64 0, .int .u16 0, .int .u16 0, .int .u16 0, .slice none 0 0, .slice none 0 0, .int .i64 0, .int .i64 0, .int .i64 0, .int .i64 0] 30)).alloc (.cells #[.int .i64 16, .int .i64 0, .int .i64 0, .int .u16 0, .int .u16 0, .int .u16 0, .slice none 0 0, .slice none 0 0, .int .i64 0, .int .i64 0, .int .i64 0, .int .i64 0] 30)) w.heap.size 30 [.int .i64 0, .int .i64 0, .int .i64 0, .int .u16 0, .int .u16 0, .int .u16 0, .slice none 0 0, .slice none 0 0, .int .i64 0, .int .i64 0, .int .i64 0, .int .i64 0]) := by
    have h : WholeV (w.alloc (.cells #[.int .i64 0, .int .i64 0, .int .i64 0, .int .u16 0, .int .u16 0, .int .u16 0, .slice none 0 0, .slice none 0 0, .int .i64 0, .int .i64 0, .int .i64 0, .int .i64 0] 30)) w.heap.size 30 [.int .i64 0, .int .i64 0, .int .i64 0, .int .u16 0, .int .u16 0, .int .u16 0, .slice none 0 0, .slice none 0 0, .int .i64 0, .int .i64 0, .int .i64 0, .int .i64 0] := heap_alloc_new w _
    exact h.below ((Below.refl _ _).alloc (Nat.le_refl _) _) (by simp)
  have HT : Hid (∀ X, Below w.heap.size w X → Row .u8 X X.heap.size (some ⟨b, off + 6, none⟩) t (zs.drop 6)) := fun X hX => ((hr.below hX).more hX.size).tail rfl
  clear hr hx hcell hkw
  have H0 := Lib.hid h0
  have HU := Lib.hid hu
  clear h0 hu hq
  have Hp := Lib.hid hp
  have Hq := Lib.hid hq
  clear hp hq
  have HBad := Lib.hid hbad
  clear hbad
  go_enter Try.func23, Try.ntmps23
  go_wp2_with (first
    | (go_at_call 42; refine (psize_many _ (6 + t) c zs _ 16 5 (t : Int) HR.out HX.out (by omega) (by omega) H0.out (by omega) (by omega) HU.out).mono ?_; rintro e w' ⟨rfl, rfl⟩; rw [show ((5 : Nat) : Int) + 1 + (t : Int) = (((6 + t) : Nat) : Int) by omega])
    | (go_at_call 43; refine (pair_other _ _ (by omega)).mono ?_; rintro e w' ⟨rfl, rfl⟩)
    | (go_at_call 44; (with_reducible refine (pnumber_any (some ⟨b, off, none⟩) (6 + t) c zs 1 p _ Hp.out (HR.out.drewN _) HX.out (by omega)).mono ?_); rintro e w' ⟨rfl, d1, rfl⟩)
    | (go_at_call 44; (with_reducible refine (pnumber_any (some ⟨b, off, none⟩) (6 + t) c zs 1 p _ Hp.out HR.out HX.out (by omega)).mono ?_); rintro e w' ⟨rfl, d1, rfl⟩)
    | (go_at_call 44; (with_reducible refine (pnumber_any (some ⟨b, off, none⟩) (6 + t) c zs 3 q _ Hq.out (HR.out.drewN _) HX.out (by omega)).mono ?_); rintro e w' ⟨rfl, d3, rfl⟩)
    | (go_at_call 44; (with_reducible refine (pnumber_any (some ⟨b, off, none⟩) (6 + t) c zs 3 q _ Hq.out HR.out HX.out (by omega)).mono ?_); rintro e w' ⟨rfl, d3, rfl⟩))
  obtain ⟨w3, hw3⟩ : ∃ w3, (((((w.alloc (.cells #[.int .i64 0, .int .i64 0, .int .i64 0, .int .u16 0, .int .u16 0, .int .u16 0, .slice none 0 0, .slice none 0 0, .int .i64 0, .int .i64 0, .int .i64 0, .int .i64 0] 30)).alloc (.cells #[.int .i64 16, .int .i64 0, .int .i64 0, .int .u16 0, .int .u16 0, .int .u16 0, .slice none 0 0, .slice none 0 0, .int .i64 0, .int .i64 0, .int .i64 0, .int .i64 0] 30)).drewN (d1 + d3)).setCell ⟨w.heap.size + 1, 1, none⟩ (.int .i64 p)).setCell ⟨w.heap.size + 1, 2, none⟩ (.int .i64 q)) = w3 := ⟨_, rfl⟩
  have hxa : Below (w.heap.size + 1) ((w.alloc (.cells #[.int .i64 0, .int .i64 0, .int .i64 0, .int .u16 0, .int .u16 0, .int .u16 0, .slice none 0 0, .slice none 0 0, .int .i64 0, .int .i64 0, .int .i64 0, .int .i64 0] 30)).alloc (.cells #[.int .i64 16, .int .i64 0, .int .i64 0, .int .u16 0, .int .u16 0, .int .u16 0, .slice none 0 0, .slice none 0 0, .int .i64 0, .int .i64 0, .int .i64 0, .int .i64 0] 30)) w3 := by rw [← hw3]; exact (((below_drewN (Below.refl (w.heap.size + 1) _) (d1 + d3)).setCell (p := ⟨w.heap.size + 1, 1, none⟩) (Nat.le_refl _) (.int .i64 p)).setCell (p := ⟨w.heap.size + 1, 2, none⟩) (Nat.le_refl _) (.int .i64 q))
  have ha4 : WholeV w3 (w.heap.size + 1) 30 [.int .i64 16, .int .i64 p, .int .i64 q, .int .u16 0, .int .u16 0, .int .u16 0, .slice none 0 0, .slice none 0 0, .int .i64 0, .int .i64 0, .int .i64 0, .int .i64 0] := by rw [← hw3]; exact (((HG4.out.drewN (d1 + d3)).set 1 (.int .i64 p)).set 2 (.int .i64 q))
  have ha2 : WholeV w3 w.heap.size 30 [.int .i64 0, .int .i64 0, .int .i64 0, .int .u16 0, .int .u16 0, .int .u16 0, .slice none 0 0, .slice none 0 0, .int .i64 0, .int .i64 0, .int .i64 0, .int .i64 0] := HG2.out.below hxa (Nat.lt_succ_self _)
  have hab : Below w.heap.size w w3 := HKW.out.trans (hxa.mono (Nat.le_succ _))
  have hz3 : w.heap.size + 2 ≤ w3.heap.size := ha4.lt
  rw [hw3]
  have HA4 := Lib.hid ha4
  have HA2 := Lib.hid ha2
  have HAB := Lib.hid hab
  have HT3 := Lib.hid (HT.out _ hab)
  obtain ⟨hq0, hq1, hq2, hq3, hq4, hq5, hq6, hq7, hq8, hq9, hq10, hq11⟩ := cells12 ha4
  clear hw3 hxa ha4 ha2 hab HG4 HG2 HKW
  have hf7 := HA4.out.frozen 7
  obtain ⟨hp0, hp1, hp2, hp3, hp4, hp5, hp6, hp7, hp8, hp9, hp10, hp11⟩ := cells12 HA2.out
  have hg0 := HA2.out.frozen 0
  have hg1 := HA2.out.frozen 1
  have hg2 := HA2.out.frozen 2
  have hg3 := HA2.out.frozen 3
  have hg4 := HA2.out.frozen 4
  have hg5 := HA2.out.frozen 5
  have hg6 := HA2.out.frozen 6
  have hg7 := HA2.out.frozen 7
  have hg8 := HA2.out.frozen 8
  have hg9 := HA2.out.frozen 9
  have hg10 := HA2.out.frozen 10
  have hg11 := HA2.out.frozen 11
  go_region_with (first
    | (go_at_call 47; (with_reducible refine (punpacked_no _ t _ q _ loq hiq (by have := HBad.out; omega) (by omega)).mono ?_); rintro e w' ⟨rfl, rfl⟩))
  all_goals
    go_wp2
    obtain ⟨X, hX⟩ : ∃ X, (w3.setCell ⟨w.heap.size + 1, 7, none⟩ (.slice none 0 0)) = X := ⟨_, rfl⟩
    have hx0 : WholeV X w.heap.size 30 [.int .i64 0, .int .i64 0, .int .i64 0, .int .u16 0, .int .u16 0, .int .u16 0, .slice none 0 0, .slice none 0 0, .int .i64 0, .int .i64 0, .int .i64 0, .int .i64 0] := by rw [← hX]; exact HA2.out.below ((Below.refl (w.heap.size + 1) _).setCell (p := ⟨w.heap.size + 1, 7, none⟩) (Nat.le_refl _) _) (Nat.lt_succ_self _)
    have hxb : Below w.heap.size w X := by rw [← hX]; exact HAB.out.setCell (p := ⟨w.heap.size + 1, 7, none⟩) (Nat.le_succ _) _
    rw [hX]
    obtain ⟨w9, hw9⟩ : ∃ w9, ((((((((((((X.setCell ⟨w.heap.size, 0, none⟩ (.int .i64 16)).setCell ⟨w.heap.size, 1, none⟩ (.int .i64 p)).setCell ⟨w.heap.size, 2, none⟩ (.int .i64 q)).setCell ⟨w.heap.size, 3, none⟩ (.int .u16 0)).setCell ⟨w.heap.size, 4, none⟩ (.int .u16 0)).setCell ⟨w.heap.size, 5, none⟩ (.int .u16 0)).setCell ⟨w.heap.size, 6, none⟩ (.slice none 0 0)).setCell ⟨w.heap.size, 7, none⟩ (.slice none 0 0)).setCell ⟨w.heap.size, 8, none⟩ (.int .i64 0)).setCell ⟨w.heap.size, 9, none⟩ (.int .i64 0)).setCell ⟨w.heap.size, 10, none⟩ (.int .i64 0)).setCell ⟨w.heap.size, 11, none⟩ (.int .i64 0)) = w9 := ⟨_, rfl⟩
    have hwh := all12 hx0 (.int .i64 16) (.int .i64 p) (.int .i64 q) (.int .u16 0) (.int .u16 0) (.int .u16 0) (.slice none 0 0) (.slice none 0 0) (.int .i64 0) (.int .i64 0) (.int .i64 0) (.int .i64 0) rfl
    have hbb := bel12 hxb (.int .i64 16) (.int .i64 p) (.int .i64 q) (.int .u16 0) (.int .u16 0) (.int .u16 0) (.slice none 0 0) (.slice none 0 0) (.int .i64 0) (.int .i64 0) (.int .i64 0) (.int .i64 0)
    rw [hw9] at hwh hbb
    rw [hw9]
    obtain ⟨he0, he1, he2, he3, he4, he5, he6, he7, he8, he9, he10, he11⟩ := cells12 hwh
    exact bodyPost_ret (v := .tuple #[.agg #[.int .i64 16, .int .i64 p, .int .i64 q, .int .u16 0, .int .u16 0, .int .u16 0, .slice none 0 0, .slice none 0 0, .int .i64 0, .int .i64 0, .int .i64 0, .int .i64 0], .bool false]) (by simp [results, Try.results23, go_sem, he0, he1, he2, he3, he4, he5, he6, he7, he8, he9, he10, he11]) rfl ⟨rfl, hbb.drew⟩

set_option maxRecDepth 100000 in
set_option maxHeartbeats 600000 in
theorem pfields_bad_16b (A : Option Addr) (n c : Nat) (zs : List Int) (w : World) (hr : Row .u8 w w.heap.size A n zs) (hx : Bytes8 zs) (hn : n ≤ 1000) (h1 : 1 ≤ n) (u p q : Int) (h0 : zs.getD 0 0 = 16) (hl : 5 < n) (hc : n ≤ c) (hcap : c = 6) (hu : zs.getD 5 0 = u) (hq : (n : Int) = 6 + u) (hp : gotW zs n 1 = p) (hq : gotW zs n 3 = q) (hbad : ¬ u = q * 2) :
    Calls Try.prog 23 #[.slice A n c] w fun e w' => e = .returned (.tuple #[.agg #[.int .i64 16, .int .i64 p, .int .i64 q, .int .u16 0, .int .u16 0, .int .u16 0, .slice none 0 0, .slice none 0 0, .int .i64 0, .int .i64 0, .int .i64 0, .int .i64 0], .bool false]) ∧ Below w.heap.size w w' := by
  obtain ⟨lop, hip⟩ := gotW_bounds hx n 1
  rw [hp] at lop hip
  obtain ⟨loq, hiq⟩ := gotW_bounds hx n 3
  rw [hq] at loq hiq
  obtain ⟨lou, hiu⟩ := hx.at_ 5
  change 0 ≤ zs.getD 5 0 at lou
  change zs.getD 5 0 ≤ 255 at hiu
  rw [hu] at lou hiu
  subst hcap
  obtain rfl : n = 6 := by omega
  obtain rfl : u = 0 := by omega
  obtain ⟨b, off, rfl, hb, hcell⟩ := hr.2 (by omega)
  have hc0 : (w.alloc (.cells #[.int .i64 0, .int .i64 0, .int .i64 0, .int .u16 0, .int .u16 0, .int .u16 0, .slice none 0 0, .slice none 0 0, .int .i64 0, .int .i64 0, .int .i64 0, .int .i64 0] 30)).cell? ⟨b, off, none⟩ = some (.int .u8 16) := by
    rw [World.cell?_alloc_lt w _ ⟨b, off, none⟩ hb]
    have := hcell 0 (by omega)
    rw [Nat.add_zero, h0] at this
    exact this
  have hn0 : (0 : Int) < ((6 : Nat) : Int) := by omega
  have hkw : Below w.heap.size w ((w.alloc (.cells #[.int .i64 0, .int .i64 0, .int .i64 0, .int .u16 0, .int .u16 0, .int .u16 0, .slice none 0 0, .slice none 0 0, .int .i64 0, .int .i64 0, .int .i64 0, .int .i64 0] 30)).alloc (.cells #[.int .i64 16, .int .i64 0, .int .i64 0, .int .u16 0, .int .u16 0, .int .u16 0, .slice none 0 0, .slice none 0 0, .int .i64 0, .int .i64 0, .int .i64 0, .int .i64 0] 30)) := ((Below.refl _ _).alloc (Nat.le_refl _) _).alloc (by simp) _
  have HR := Lib.hid ((hr.below hkw).more hkw.size)
  have HX := Lib.hid hx
  have HKW := Lib.hid hkw
  have HG4 : Hid (WholeV ((w.alloc (.cells #[.int .i64 0, .int .i64 0, .int .i64 0, .int .u16 0, .int .u16 0, .int .u16 0, .slice none 0 0, .slice none 0 0, .int .i64 0, .int .i64 0, .int .i64 0, .int .i64 0] 30)).alloc (.cells #[.int .i64 16, .int .i64 0, .int .i64 0, .int .u16 0, .int .u16 0, .int .u16 0, .slice none 0 0, .slice none 0 0, .int .i64 0, .int .i64 0, .int .i64 0, .int .i64 0] 30)) (w.heap.size + 1) 30 [.int .i64 16, .int .i64 0, .int .i64 0, .int .u16 0, .int .u16 0, .int .u16 0, .slice none 0 0, .slice none 0 0, .int .i64 0, .int .i64 0, .int .i64 0, .int .i64 0]) := by
    have h := heap_alloc_new (w.alloc (.cells #[.int .i64 0, .int .i64 0, .int .i64 0, .int .u16 0, .int .u16 0, .int .u16 0, .slice none 0 0, .slice none 0 0, .int .i64 0, .int .i64 0, .int .i64 0, .int .i64 0] 30)) (.cells #[.int .i64 16, .int .i64 0, .int .i64 0, .int .u16 0, .int .u16 0, .int .u16 0, .slice none 0 0, .slice none 0 0, .int .i64 0, .int .i64 0, .int .i64 0, .int .i64 0] 30)
    rwa [show (w.alloc (.cells #[.int .i64 0, .int .i64 0, .int .i64 0, .int .u16 0, .int .u16 0, .int .u16 0, .slice none 0 0, .slice none 0 0, .int .i64 0, .int .i64 0, .int .i64 0, .int .i64 0] 30)).heap.size = w.heap.size + 1 by simp] at h
  have HG2 : Hid (WholeV ((w.alloc (.cells #[.int .i64 0, .int .i64 0, .int .i64 0, .int .u16 0, .int .u16 0, .int .u16 0, .slice none 0 0, .slice none 0 0, .int .i64 0, .int .i64 0, .int .i64 0, .int .i64 0] 30)).alloc (.cells #[.int .i64 16, .int .i64 0, .int .i64 0, .int .u16 0, .int .u16 0, .int .u16 0, .slice none 0 0, .slice none 0 0, .int .i64 0, .int .i64 0, .int .i64 0, .int .i64 0] 30)) w.heap.size 30 [.int .i64 0, .int .i64 0, .int .i64 0, .int .u16 0, .int .u16 0, .int .u16 0, .slice none 0 0, .slice none 0 0, .int .i64 0, .int .i64 0, .int .i64 0, .int .i64 0]) := by
    have h : WholeV (w.alloc (.cells #[.int .i64 0, .int .i64 0, .int .i64 0, .int .u16 0, .int .u16 0, .int .u16 0, .slice none 0 0, .slice none 0 0, .int .i64 0, .int .i64 0, .int .i64 0, .int .i64 0] 30)) w.heap.size 30 [.int .i64 0, .int .i64 0, .int .i64 0, .int .u16 0, .int .u16 0, .int .u16 0, .slice none 0 0, .slice none 0 0, .int .i64 0, .int .i64 0, .int .i64 0, .int .i64 0] := heap_alloc_new w _
    exact h.below ((Below.refl _ _).alloc (Nat.le_refl _) _) (by simp)
  have HT : Hid (∀ X, Below w.heap.size w X → Row .u8 X X.heap.size (some ⟨b, off, none⟩) 0 (zs.drop 6)) := fun X hX => row_none hr.1
  clear hr hx hcell hkw
  have H0 := Lib.hid h0
  have HU := Lib.hid hu
  clear h0 hu hq
  have Hp := Lib.hid hp
  have Hq := Lib.hid hq
  clear hp hq
  have HBad := Lib.hid hbad
  clear hbad
  go_enter Try.func23, Try.ntmps23
  go_wp2_with (first
    | (go_at_call 42; refine (psize_many _ 6 6 zs _ 16 5 0 HR.out HX.out (by omega) (by omega) H0.out (by omega) (by omega) HU.out).mono ?_; rintro e w' ⟨rfl, rfl⟩; rw [show ((5 : Nat) : Int) + 1 + 0 = 6 by omega])
    | (go_at_call 43; refine (pair_other _ _ (by omega)).mono ?_; rintro e w' ⟨rfl, rfl⟩)
    | (go_at_call 44; (with_reducible refine (pnumber_any (some ⟨b, off, none⟩) 6 6 zs 1 p _ Hp.out (HR.out.drewN _) HX.out (by omega)).mono ?_); rintro e w' ⟨rfl, d1, rfl⟩)
    | (go_at_call 44; (with_reducible refine (pnumber_any (some ⟨b, off, none⟩) 6 6 zs 1 p _ Hp.out HR.out HX.out (by omega)).mono ?_); rintro e w' ⟨rfl, d1, rfl⟩)
    | (go_at_call 44; (with_reducible refine (pnumber_any (some ⟨b, off, none⟩) 6 6 zs 3 q _ Hq.out (HR.out.drewN _) HX.out (by omega)).mono ?_); rintro e w' ⟨rfl, d3, rfl⟩)
    | (go_at_call 44; (with_reducible refine (pnumber_any (some ⟨b, off, none⟩) 6 6 zs 3 q _ Hq.out HR.out HX.out (by omega)).mono ?_); rintro e w' ⟨rfl, d3, rfl⟩))
  obtain ⟨w3, hw3⟩ : ∃ w3, (((((w.alloc (.cells #[.int .i64 0, .int .i64 0, .int .i64 0, .int .u16 0, .int .u16 0, .int .u16 0, .slice none 0 0, .slice none 0 0, .int .i64 0, .int .i64 0, .int .i64 0, .int .i64 0] 30)).alloc (.cells #[.int .i64 16, .int .i64 0, .int .i64 0, .int .u16 0, .int .u16 0, .int .u16 0, .slice none 0 0, .slice none 0 0, .int .i64 0, .int .i64 0, .int .i64 0, .int .i64 0] 30)).drewN (d1 + d3)).setCell ⟨w.heap.size + 1, 1, none⟩ (.int .i64 p)).setCell ⟨w.heap.size + 1, 2, none⟩ (.int .i64 q)) = w3 := ⟨_, rfl⟩
  have hxa : Below (w.heap.size + 1) ((w.alloc (.cells #[.int .i64 0, .int .i64 0, .int .i64 0, .int .u16 0, .int .u16 0, .int .u16 0, .slice none 0 0, .slice none 0 0, .int .i64 0, .int .i64 0, .int .i64 0, .int .i64 0] 30)).alloc (.cells #[.int .i64 16, .int .i64 0, .int .i64 0, .int .u16 0, .int .u16 0, .int .u16 0, .slice none 0 0, .slice none 0 0, .int .i64 0, .int .i64 0, .int .i64 0, .int .i64 0] 30)) w3 := by rw [← hw3]; exact (((below_drewN (Below.refl (w.heap.size + 1) _) (d1 + d3)).setCell (p := ⟨w.heap.size + 1, 1, none⟩) (Nat.le_refl _) (.int .i64 p)).setCell (p := ⟨w.heap.size + 1, 2, none⟩) (Nat.le_refl _) (.int .i64 q))
  have ha4 : WholeV w3 (w.heap.size + 1) 30 [.int .i64 16, .int .i64 p, .int .i64 q, .int .u16 0, .int .u16 0, .int .u16 0, .slice none 0 0, .slice none 0 0, .int .i64 0, .int .i64 0, .int .i64 0, .int .i64 0] := by rw [← hw3]; exact (((HG4.out.drewN (d1 + d3)).set 1 (.int .i64 p)).set 2 (.int .i64 q))
  have ha2 : WholeV w3 w.heap.size 30 [.int .i64 0, .int .i64 0, .int .i64 0, .int .u16 0, .int .u16 0, .int .u16 0, .slice none 0 0, .slice none 0 0, .int .i64 0, .int .i64 0, .int .i64 0, .int .i64 0] := HG2.out.below hxa (Nat.lt_succ_self _)
  have hab : Below w.heap.size w w3 := HKW.out.trans (hxa.mono (Nat.le_succ _))
  have hz3 : w.heap.size + 2 ≤ w3.heap.size := ha4.lt
  rw [hw3]
  have HA4 := Lib.hid ha4
  have HA2 := Lib.hid ha2
  have HAB := Lib.hid hab
  have HT3 := Lib.hid (HT.out _ hab)
  obtain ⟨hq0, hq1, hq2, hq3, hq4, hq5, hq6, hq7, hq8, hq9, hq10, hq11⟩ := cells12 ha4
  clear hw3 hxa ha4 ha2 hab HG4 HG2 HKW
  have hf7 := HA4.out.frozen 7
  obtain ⟨hp0, hp1, hp2, hp3, hp4, hp5, hp6, hp7, hp8, hp9, hp10, hp11⟩ := cells12 HA2.out
  have hg0 := HA2.out.frozen 0
  have hg1 := HA2.out.frozen 1
  have hg2 := HA2.out.frozen 2
  have hg3 := HA2.out.frozen 3
  have hg4 := HA2.out.frozen 4
  have hg5 := HA2.out.frozen 5
  have hg6 := HA2.out.frozen 6
  have hg7 := HA2.out.frozen 7
  have hg8 := HA2.out.frozen 8
  have hg9 := HA2.out.frozen 9
  have hg10 := HA2.out.frozen 10
  have hg11 := HA2.out.frozen 11
  go_region_with (first
    | (go_at_call 47; (with_reducible refine (punpacked_no _ 0 _ q _ loq hiq (by have := HBad.out; omega) (by omega)).mono ?_); rintro e w' ⟨rfl, rfl⟩))
  all_goals
    go_wp2
    obtain ⟨X, hX⟩ : ∃ X, (w3.setCell ⟨w.heap.size + 1, 7, none⟩ (.slice none 0 0)) = X := ⟨_, rfl⟩
    have hx0 : WholeV X w.heap.size 30 [.int .i64 0, .int .i64 0, .int .i64 0, .int .u16 0, .int .u16 0, .int .u16 0, .slice none 0 0, .slice none 0 0, .int .i64 0, .int .i64 0, .int .i64 0, .int .i64 0] := by rw [← hX]; exact HA2.out.below ((Below.refl (w.heap.size + 1) _).setCell (p := ⟨w.heap.size + 1, 7, none⟩) (Nat.le_refl _) _) (Nat.lt_succ_self _)
    have hxb : Below w.heap.size w X := by rw [← hX]; exact HAB.out.setCell (p := ⟨w.heap.size + 1, 7, none⟩) (Nat.le_succ _) _
    rw [hX]
    obtain ⟨w9, hw9⟩ : ∃ w9, ((((((((((((X.setCell ⟨w.heap.size, 0, none⟩ (.int .i64 16)).setCell ⟨w.heap.size, 1, none⟩ (.int .i64 p)).setCell ⟨w.heap.size, 2, none⟩ (.int .i64 q)).setCell ⟨w.heap.size, 3, none⟩ (.int .u16 0)).setCell ⟨w.heap.size, 4, none⟩ (.int .u16 0)).setCell ⟨w.heap.size, 5, none⟩ (.int .u16 0)).setCell ⟨w.heap.size, 6, none⟩ (.slice none 0 0)).setCell ⟨w.heap.size, 7, none⟩ (.slice none 0 0)).setCell ⟨w.heap.size, 8, none⟩ (.int .i64 0)).setCell ⟨w.heap.size, 9, none⟩ (.int .i64 0)).setCell ⟨w.heap.size, 10, none⟩ (.int .i64 0)).setCell ⟨w.heap.size, 11, none⟩ (.int .i64 0)) = w9 := ⟨_, rfl⟩
    have hwh := all12 hx0 (.int .i64 16) (.int .i64 p) (.int .i64 q) (.int .u16 0) (.int .u16 0) (.int .u16 0) (.slice none 0 0) (.slice none 0 0) (.int .i64 0) (.int .i64 0) (.int .i64 0) (.int .i64 0) rfl
    have hbb := bel12 hxb (.int .i64 16) (.int .i64 p) (.int .i64 q) (.int .u16 0) (.int .u16 0) (.int .u16 0) (.slice none 0 0) (.slice none 0 0) (.int .i64 0) (.int .i64 0) (.int .i64 0) (.int .i64 0)
    rw [hw9] at hwh hbb
    rw [hw9]
    obtain ⟨he0, he1, he2, he3, he4, he5, he6, he7, he8, he9, he10, he11⟩ := cells12 hwh
    exact bodyPost_ret (v := .tuple #[.agg #[.int .i64 16, .int .i64 p, .int .i64 q, .int .u16 0, .int .u16 0, .int .u16 0, .slice none 0 0, .slice none 0 0, .int .i64 0, .int .i64 0, .int .i64 0, .int .i64 0], .bool false]) (by simp [results, Try.results23, go_sem, he0, he1, he2, he3, he4, he5, he6, he7, he8, he9, he10, he11]) rfl ⟨rfl, hbb.drew⟩

set_option maxRecDepth 100000 in
set_option maxHeartbeats 600000 in
theorem pfields_yes_23a (A : Option Addr) (n c : Nat) (zs : List Int) (w : World) (hr : Row .u8 w w.heap.size A n zs) (hx : Bytes8 zs) (hn : n ≤ 1000) (h1 : 1 ≤ n) (u p q a m : Int) (h0 : zs.getD 0 0 = 23) (hl : 9 < n) (hc : n ≤ c) (hcap : ¬ c = 10) (hu : zs.getD 9 0 = u) (hq : (n : Int) = 10 + u) (hp : gotW zs n 5 = p) (hq : gotW zs n 7 = q) (ha : gotW zs n 1 = a) (hm : gotW zs n 3 = m) (k : Nat) (hk : q = (k : Int)) (hkn : u = 2 * (k : Int)) :
    Calls Try.prog 23 #[.slice A n c] w fun e w' => ∃ G g, e = .returned (.tuple #[.agg #[.int .i64 23, .int .i64 p, .int .i64 q, .int .u16 0, .int .u16 0, .int .u16 0, .slice none 0 0, .slice G k g, .int .i64 a, .int .i64 m, .int .i64 0, .int .i64 0], .bool true]) ∧ w'.ownsRow w.heap.size 26 1 (.slice G k g) k ((wordsAt (zs.drop 10) 0 k).map (Value.int .u16)) ∧ Below w.heap.size w w' := by
  obtain ⟨lop, hip⟩ := gotW_bounds hx n 5
  rw [hp] at lop hip
  obtain ⟨loq, hiq⟩ := gotW_bounds hx n 7
  rw [hq] at loq hiq
  obtain ⟨loa, hia⟩ := gotW_bounds hx n 1
  rw [ha] at loa hia
  obtain ⟨lom, him⟩ := gotW_bounds hx n 3
  rw [hm] at lom him
  obtain ⟨lou, hiu⟩ := hx.at_ 9
  change 0 ≤ zs.getD 9 0 at lou
  change zs.getD 9 0 ≤ 255 at hiu
  rw [hu] at lou hiu
  obtain ⟨t, ht⟩ : ∃ t : Nat, (t : Int) = u := ⟨u.toNat, by omega⟩
  subst ht
  have hnt : n = 10 + t := by omega
  subst hnt
  have hct : 10 < c := by omega
  obtain ⟨b, off, rfl, hb, hcell⟩ := hr.2 (by omega)
  have hc0 : (w.alloc (.cells #[.int .i64 0, .int .i64 0, .int .i64 0, .int .u16 0, .int .u16 0, .int .u16 0, .slice none 0 0, .slice none 0 0, .int .i64 0, .int .i64 0, .int .i64 0, .int .i64 0] 30)).cell? ⟨b, off, none⟩ = some (.int .u8 23) := by
    rw [World.cell?_alloc_lt w _ ⟨b, off, none⟩ hb]
    have := hcell 0 (by omega)
    rw [Nat.add_zero, h0] at this
    exact this
  have hn0 : (0 : Int) < (((10 + t) : Nat) : Int) := by omega
  have hkw : Below w.heap.size w ((w.alloc (.cells #[.int .i64 0, .int .i64 0, .int .i64 0, .int .u16 0, .int .u16 0, .int .u16 0, .slice none 0 0, .slice none 0 0, .int .i64 0, .int .i64 0, .int .i64 0, .int .i64 0] 30)).alloc (.cells #[.int .i64 23, .int .i64 0, .int .i64 0, .int .u16 0, .int .u16 0, .int .u16 0, .slice none 0 0, .slice none 0 0, .int .i64 0, .int .i64 0, .int .i64 0, .int .i64 0] 30)) := ((Below.refl _ _).alloc (Nat.le_refl _) _).alloc (by simp) _
  have HR := Lib.hid ((hr.below hkw).more hkw.size)
  have HX := Lib.hid hx
  have HKW := Lib.hid hkw
  have HG4 : Hid (WholeV ((w.alloc (.cells #[.int .i64 0, .int .i64 0, .int .i64 0, .int .u16 0, .int .u16 0, .int .u16 0, .slice none 0 0, .slice none 0 0, .int .i64 0, .int .i64 0, .int .i64 0, .int .i64 0] 30)).alloc (.cells #[.int .i64 23, .int .i64 0, .int .i64 0, .int .u16 0, .int .u16 0, .int .u16 0, .slice none 0 0, .slice none 0 0, .int .i64 0, .int .i64 0, .int .i64 0, .int .i64 0] 30)) (w.heap.size + 1) 30 [.int .i64 23, .int .i64 0, .int .i64 0, .int .u16 0, .int .u16 0, .int .u16 0, .slice none 0 0, .slice none 0 0, .int .i64 0, .int .i64 0, .int .i64 0, .int .i64 0]) := by
    have h := heap_alloc_new (w.alloc (.cells #[.int .i64 0, .int .i64 0, .int .i64 0, .int .u16 0, .int .u16 0, .int .u16 0, .slice none 0 0, .slice none 0 0, .int .i64 0, .int .i64 0, .int .i64 0, .int .i64 0] 30)) (.cells #[.int .i64 23, .int .i64 0, .int .i64 0, .int .u16 0, .int .u16 0, .int .u16 0, .slice none 0 0, .slice none 0 0, .int .i64 0, .int .i64 0, .int .i64 0, .int .i64 0] 30)
    rwa [show (w.alloc (.cells #[.int .i64 0, .int .i64 0, .int .i64 0, .int .u16 0, .int .u16 0, .int .u16 0, .slice none 0 0, .slice none 0 0, .int .i64 0, .int .i64 0, .int .i64 0, .int .i64 0] 30)).heap.size = w.heap.size + 1 by simp] at h
  have HG2 : Hid (WholeV ((w.alloc (.cells #[.int .i64 0, .int .i64 0, .int .i64 0, .int .u16 0, .int .u16 0, .int .u16 0, .slice none 0 0, .slice none 0 0, .int .i64 0, .int .i64 0, .int .i64 0, .int .i64 0] 30)).alloc (.cells #[.int .i64 23, .int .i64 0, .int .i64 0, .int .u16 0, .int .u16 0, .int .u16 0, .slice none 0 0, .slice none 0 0, .int .i64 0, .int .i64 0, .int .i64 0, .int .i64 0] 30)) w.heap.size 30 [.int .i64 0, .int .i64 0, .int .i64 0, .int .u16 0, .int .u16 0, .int .u16 0, .slice none 0 0, .slice none 0 0, .int .i64 0, .int .i64 0, .int .i64 0, .int .i64 0]) := by
    have h : WholeV (w.alloc (.cells #[.int .i64 0, .int .i64 0, .int .i64 0, .int .u16 0, .int .u16 0, .int .u16 0, .slice none 0 0, .slice none 0 0, .int .i64 0, .int .i64 0, .int .i64 0, .int .i64 0] 30)) w.heap.size 30 [.int .i64 0, .int .i64 0, .int .i64 0, .int .u16 0, .int .u16 0, .int .u16 0, .slice none 0 0, .slice none 0 0, .int .i64 0, .int .i64 0, .int .i64 0, .int .i64 0] := heap_alloc_new w _
    exact h.below ((Below.refl _ _).alloc (Nat.le_refl _) _) (by simp)
  have HT : Hid (∀ X, Below w.heap.size w X → Row .u8 X X.heap.size (some ⟨b, off + 10, none⟩) t (zs.drop 10)) := fun X hX => ((hr.below hX).more hX.size).tail rfl
  clear hr hx hcell hkw
  have H0 := Lib.hid h0
  have HU := Lib.hid hu
  clear h0 hu hq
  have Hp := Lib.hid hp
  have Hq := Lib.hid hq
  have Ha := Lib.hid ha
  have Hm := Lib.hid hm
  clear hp hq ha hm
  have HK := Lib.hid hk
  have HKN := Lib.hid hkn
  have hkb : k ≤ 1000 := by omega
  clear hk hkn
  go_enter Try.func23, Try.ntmps23
  go_wp2_with (first
    | (go_at_call 42; refine (psize_many _ (10 + t) c zs _ 23 9 (t : Int) HR.out HX.out (by omega) (by omega) H0.out (by omega) (by omega) HU.out).mono ?_; rintro e w' ⟨rfl, rfl⟩; rw [show ((9 : Nat) : Int) + 1 + (t : Int) = (((10 + t) : Nat) : Int) by omega])
    | (go_at_call 43; refine (pair_23 _).mono ?_; rintro e w' ⟨rfl, rfl⟩)
    | (go_at_call 44; (with_reducible refine (pnumber_any (some ⟨b, off, none⟩) (10 + t) c zs 5 p _ Hp.out (HR.out.drewN _) HX.out (by omega)).mono ?_); rintro e w' ⟨rfl, d5, rfl⟩)
    | (go_at_call 44; (with_reducible refine (pnumber_any (some ⟨b, off, none⟩) (10 + t) c zs 5 p _ Hp.out HR.out HX.out (by omega)).mono ?_); rintro e w' ⟨rfl, d5, rfl⟩)
    | (go_at_call 44; (with_reducible refine (pnumber_any (some ⟨b, off, none⟩) (10 + t) c zs 7 q _ Hq.out (HR.out.drewN _) HX.out (by omega)).mono ?_); rintro e w' ⟨rfl, d7, rfl⟩)
    | (go_at_call 44; (with_reducible refine (pnumber_any (some ⟨b, off, none⟩) (10 + t) c zs 7 q _ Hq.out HR.out HX.out (by omega)).mono ?_); rintro e w' ⟨rfl, d7, rfl⟩)
    | (go_at_call 44; (with_reducible refine (pnumber_any (some ⟨b, off, none⟩) (10 + t) c zs 1 a _ Ha.out (HR.out.drewN _) HX.out (by omega)).mono ?_); rintro e w' ⟨rfl, d1, rfl⟩)
    | (go_at_call 44; (with_reducible refine (pnumber_any (some ⟨b, off, none⟩) (10 + t) c zs 1 a _ Ha.out HR.out HX.out (by omega)).mono ?_); rintro e w' ⟨rfl, d1, rfl⟩)
    | (go_at_call 44; (with_reducible refine (pnumber_any (some ⟨b, off, none⟩) (10 + t) c zs 3 m _ Hm.out (HR.out.drewN _) HX.out (by omega)).mono ?_); rintro e w' ⟨rfl, d3, rfl⟩)
    | (go_at_call 44; (with_reducible refine (pnumber_any (some ⟨b, off, none⟩) (10 + t) c zs 3 m _ Hm.out HR.out HX.out (by omega)).mono ?_); rintro e w' ⟨rfl, d3, rfl⟩))
  obtain ⟨w3, hw3⟩ : ∃ w3, (((((((w.alloc (.cells #[.int .i64 0, .int .i64 0, .int .i64 0, .int .u16 0, .int .u16 0, .int .u16 0, .slice none 0 0, .slice none 0 0, .int .i64 0, .int .i64 0, .int .i64 0, .int .i64 0] 30)).alloc (.cells #[.int .i64 23, .int .i64 0, .int .i64 0, .int .u16 0, .int .u16 0, .int .u16 0, .slice none 0 0, .slice none 0 0, .int .i64 0, .int .i64 0, .int .i64 0, .int .i64 0] 30)).drewN (d5 + d7 + d1 + d3)).setCell ⟨w.heap.size + 1, 8, none⟩ (.int .i64 a)).setCell ⟨w.heap.size + 1, 9, none⟩ (.int .i64 m)).setCell ⟨w.heap.size + 1, 1, none⟩ (.int .i64 p)).setCell ⟨w.heap.size + 1, 2, none⟩ (.int .i64 q)) = w3 := ⟨_, rfl⟩
  have hxa : Below (w.heap.size + 1) ((w.alloc (.cells #[.int .i64 0, .int .i64 0, .int .i64 0, .int .u16 0, .int .u16 0, .int .u16 0, .slice none 0 0, .slice none 0 0, .int .i64 0, .int .i64 0, .int .i64 0, .int .i64 0] 30)).alloc (.cells #[.int .i64 23, .int .i64 0, .int .i64 0, .int .u16 0, .int .u16 0, .int .u16 0, .slice none 0 0, .slice none 0 0, .int .i64 0, .int .i64 0, .int .i64 0, .int .i64 0] 30)) w3 := by rw [← hw3]; exact (((((below_drewN (Below.refl (w.heap.size + 1) _) (d5 + d7 + d1 + d3)).setCell (p := ⟨w.heap.size + 1, 8, none⟩) (Nat.le_refl _) (.int .i64 a)).setCell (p := ⟨w.heap.size + 1, 9, none⟩) (Nat.le_refl _) (.int .i64 m)).setCell (p := ⟨w.heap.size + 1, 1, none⟩) (Nat.le_refl _) (.int .i64 p)).setCell (p := ⟨w.heap.size + 1, 2, none⟩) (Nat.le_refl _) (.int .i64 q))
  have ha4 : WholeV w3 (w.heap.size + 1) 30 [.int .i64 23, .int .i64 p, .int .i64 q, .int .u16 0, .int .u16 0, .int .u16 0, .slice none 0 0, .slice none 0 0, .int .i64 a, .int .i64 m, .int .i64 0, .int .i64 0] := by rw [← hw3]; exact (((((HG4.out.drewN (d5 + d7 + d1 + d3)).set 8 (.int .i64 a)).set 9 (.int .i64 m)).set 1 (.int .i64 p)).set 2 (.int .i64 q))
  have ha2 : WholeV w3 w.heap.size 30 [.int .i64 0, .int .i64 0, .int .i64 0, .int .u16 0, .int .u16 0, .int .u16 0, .slice none 0 0, .slice none 0 0, .int .i64 0, .int .i64 0, .int .i64 0, .int .i64 0] := HG2.out.below hxa (Nat.lt_succ_self _)
  have hab : Below w.heap.size w w3 := HKW.out.trans (hxa.mono (Nat.le_succ _))
  have hz3 : w.heap.size + 2 ≤ w3.heap.size := ha4.lt
  rw [hw3]
  have HA4 := Lib.hid ha4
  have HA2 := Lib.hid ha2
  have HAB := Lib.hid hab
  have HT3 := Lib.hid (HT.out _ hab)
  obtain ⟨hq0, hq1, hq2, hq3, hq4, hq5, hq6, hq7, hq8, hq9, hq10, hq11⟩ := cells12 ha4
  clear hw3 hxa ha4 ha2 hab HG4 HG2 HKW
  go_region_with (first
      | (go_at_call 47
         (with_reducible refine (punpacked_yes _ k t _ q (zs.drop 10) _ (by have := HKN.out; omega) HK.out (HT3.out.drewN 1) (HX.out.drop 10) (by omega)).mono ?_)
         rintro e w5 ⟨rfl, ho5, hb5⟩
         have hb5' : Below w3.heap.size w3 w5 := below_from (d := 1) hb5
         have h1 := HA4.out.below hb5' (show w.heap.size + 1 < w3.heap.size by omega)
         have h0 := HA2.out.below hb5' (show w.heap.size < w3.heap.size by omega)
         have HB5 : Hid (Below w.heap.size w w5) := HAB.out.trans (hb5'.mono HAB.out.size)
         obtain ⟨hs0, hs1, hs2, hs3, hs4, hs5, hs6, hs7, hs8, hs9, hs10, hs11⟩ := cells12 h1
         obtain ⟨hp0, hp1, hp2, hp3, hp4, hp5, hp6, hp7, hp8, hp9, hp10, hp11⟩ := cells12 h0
         have hf0 := h1.frozen 0
         have hg0 := h0.frozen 0
         have hf1 := h1.frozen 1
         have hg1 := h0.frozen 1
         have hf2 := h1.frozen 2
         have hg2 := h0.frozen 2
         have hf3 := h1.frozen 3
         have hg3 := h0.frozen 3
         have hf4 := h1.frozen 4
         have hg4 := h0.frozen 4
         have hf5 := h1.frozen 5
         have hg5 := h0.frozen 5
         have hf6 := h1.frozen 6
         have hg6 := h0.frozen 6
         have hf7 := h1.frozen 7
         have hg7 := h0.frozen 7
         have hf8 := h1.frozen 8
         have hg8 := h0.frozen 8
         have hf9 := h1.frozen 9
         have hg9 := h0.frozen 9
         have hf10 := h1.frozen 10
         have hg10 := h0.frozen 10
         have hf11 := h1.frozen 11
         have hg11 := h0.frozen 11
         have hz5 : w.heap.size + 2 ≤ w5.heap.size := h1.lt
         have HH1 := Lib.hid h1
         have HH0 := Lib.hid h0
         have HO5 := Lib.hid ho5
         clear h1 h0 hb5 hb5' ho5))
  all_goals
    go_wp2
    obtain ⟨X, hX⟩ : ∃ X, (w5.setCell ⟨w.heap.size + 1, 7, none⟩ (.slice (some ⟨w3.heap.size, 0, none⟩) k k)) = X := ⟨_, rfl⟩
    have hx0 : WholeV X w.heap.size 30 [.int .i64 0, .int .i64 0, .int .i64 0, .int .u16 0, .int .u16 0, .int .u16 0, .slice none 0 0, .slice none 0 0, .int .i64 0, .int .i64 0, .int .i64 0, .int .i64 0] := by rw [← hX]; exact HH0.out.below ((Below.refl (w.heap.size + 1) _).setCell (p := ⟨w.heap.size + 1, 7, none⟩) (Nat.le_refl _) _) (Nat.lt_succ_self _)
    have hxb : Below w.heap.size w X := by rw [← hX]; exact HB5.out.setCell (p := ⟨w.heap.size + 1, 7, none⟩) (Nat.le_succ _) _
    have hox : X.ownsRow w3.heap.size 26 1 (.slice (some ⟨w3.heap.size, 0, none⟩) k k) k ((wordsAt (zs.drop 10) 0 k).map (Value.int .u16)) := by rw [← hX]; exact own_far (own_of_whole HO5.out (Nat.le_refl _) (by simp [unb_length, wordsAt_length]) (by omega)) ⟨w.heap.size + 1, 7, none⟩ (show w.heap.size + 1 < w3.heap.size by omega) _
    rw [hX]
    obtain ⟨w9, hw9⟩ : ∃ w9, ((((((((((((X.setCell ⟨w.heap.size, 0, none⟩ (.int .i64 23)).setCell ⟨w.heap.size, 1, none⟩ (.int .i64 p)).setCell ⟨w.heap.size, 2, none⟩ (.int .i64 q)).setCell ⟨w.heap.size, 3, none⟩ (.int .u16 0)).setCell ⟨w.heap.size, 4, none⟩ (.int .u16 0)).setCell ⟨w.heap.size, 5, none⟩ (.int .u16 0)).setCell ⟨w.heap.size, 6, none⟩ (.slice none 0 0)).setCell ⟨w.heap.size, 7, none⟩ (.slice (some ⟨w3.heap.size, 0, none⟩) k k)).setCell ⟨w.heap.size, 8, none⟩ (.int .i64 a)).setCell ⟨w.heap.size, 9, none⟩ (.int .i64 m)).setCell ⟨w.heap.size, 10, none⟩ (.int .i64 0)).setCell ⟨w.heap.size, 11, none⟩ (.int .i64 0)) = w9 := ⟨_, rfl⟩
    have hwh := all12 hx0 (.int .i64 23) (.int .i64 p) (.int .i64 q) (.int .u16 0) (.int .u16 0) (.int .u16 0) (.slice none 0 0) (.slice (some ⟨w3.heap.size, 0, none⟩) k k) (.int .i64 a) (.int .i64 m) (.int .i64 0) (.int .i64 0) rfl
    have hbb := bel12 hxb (.int .i64 23) (.int .i64 p) (.int .i64 q) (.int .u16 0) (.int .u16 0) (.int .u16 0) (.slice none 0 0) (.slice (some ⟨w3.heap.size, 0, none⟩) k k) (.int .i64 a) (.int .i64 m) (.int .i64 0) (.int .i64 0)
    have ho9 : w9.ownsRow w3.heap.size 26 1 (.slice (some ⟨w3.heap.size, 0, none⟩) k k) k ((wordsAt (zs.drop 10) 0 k).map (Value.int .u16)) := by rw [← hw9]; exact (own_far (own_far (own_far (own_far (own_far (own_far (own_far (own_far (own_far (own_far (own_far (own_far hox ⟨w.heap.size, 0, none⟩ (show w.heap.size < w3.heap.size by omega) (.int .i64 23)) ⟨w.heap.size, 1, none⟩ (show w.heap.size < w3.heap.size by omega) (.int .i64 p)) ⟨w.heap.size, 2, none⟩ (show w.heap.size < w3.heap.size by omega) (.int .i64 q)) ⟨w.heap.size, 3, none⟩ (show w.heap.size < w3.heap.size by omega) (.int .u16 0)) ⟨w.heap.size, 4, none⟩ (show w.heap.size < w3.heap.size by omega) (.int .u16 0)) ⟨w.heap.size, 5, none⟩ (show w.heap.size < w3.heap.size by omega) (.int .u16 0)) ⟨w.heap.size, 6, none⟩ (show w.heap.size < w3.heap.size by omega) (.slice none 0 0)) ⟨w.heap.size, 7, none⟩ (show w.heap.size < w3.heap.size by omega) (.slice (some ⟨w3.heap.size, 0, none⟩) k k)) ⟨w.heap.size, 8, none⟩ (show w.heap.size < w3.heap.size by omega) (.int .i64 a)) ⟨w.heap.size, 9, none⟩ (show w.heap.size < w3.heap.size by omega) (.int .i64 m)) ⟨w.heap.size, 10, none⟩ (show w.heap.size < w3.heap.size by omega) (.int .i64 0)) ⟨w.heap.size, 11, none⟩ (show w.heap.size < w3.heap.size by omega) (.int .i64 0))
    rw [hw9] at hwh hbb
    rw [hw9]
    obtain ⟨he0, he1, he2, he3, he4, he5, he6, he7, he8, he9, he10, he11⟩ := cells12 hwh
    exact bodyPost_ret (v := .tuple #[.agg #[.int .i64 23, .int .i64 p, .int .i64 q, .int .u16 0, .int .u16 0, .int .u16 0, .slice none 0 0, .slice (some ⟨w3.heap.size, 0, none⟩) k k, .int .i64 a, .int .i64 m, .int .i64 0, .int .i64 0], .bool true]) (by simp [results, Try.results23, go_sem, he0, he1, he2, he3, he4, he5, he6, he7, he8, he9, he10, he11]) rfl ⟨_, _, rfl, own_mono ho9 HAB.out.size, hbb⟩

set_option maxRecDepth 100000 in
set_option maxHeartbeats 600000 in
theorem pfields_yes_23b (A : Option Addr) (n c : Nat) (zs : List Int) (w : World) (hr : Row .u8 w w.heap.size A n zs) (hx : Bytes8 zs) (hn : n ≤ 1000) (h1 : 1 ≤ n) (u p q a m : Int) (h0 : zs.getD 0 0 = 23) (hl : 9 < n) (hc : n ≤ c) (hcap : c = 10) (hu : zs.getD 9 0 = u) (hq : (n : Int) = 10 + u) (hp : gotW zs n 5 = p) (hq : gotW zs n 7 = q) (ha : gotW zs n 1 = a) (hm : gotW zs n 3 = m) (k : Nat) (hk : q = (k : Int)) (hkn : u = 2 * (k : Int)) :
    Calls Try.prog 23 #[.slice A n c] w fun e w' => ∃ G g, e = .returned (.tuple #[.agg #[.int .i64 23, .int .i64 p, .int .i64 q, .int .u16 0, .int .u16 0, .int .u16 0, .slice none 0 0, .slice G k g, .int .i64 a, .int .i64 m, .int .i64 0, .int .i64 0], .bool true]) ∧ w'.ownsRow w.heap.size 26 1 (.slice G k g) k ((wordsAt (zs.drop 10) 0 k).map (Value.int .u16)) ∧ Below w.heap.size w w' := by
  obtain ⟨lop, hip⟩ := gotW_bounds hx n 5
  rw [hp] at lop hip
  obtain ⟨loq, hiq⟩ := gotW_bounds hx n 7
  rw [hq] at loq hiq
  obtain ⟨loa, hia⟩ := gotW_bounds hx n 1
  rw [ha] at loa hia
  obtain ⟨lom, him⟩ := gotW_bounds hx n 3
  rw [hm] at lom him
  obtain ⟨lou, hiu⟩ := hx.at_ 9
  change 0 ≤ zs.getD 9 0 at lou
  change zs.getD 9 0 ≤ 255 at hiu
  rw [hu] at lou hiu
  subst hcap
  obtain rfl : n = 10 := by omega
  obtain rfl : u = 0 := by omega
  obtain ⟨b, off, rfl, hb, hcell⟩ := hr.2 (by omega)
  have hc0 : (w.alloc (.cells #[.int .i64 0, .int .i64 0, .int .i64 0, .int .u16 0, .int .u16 0, .int .u16 0, .slice none 0 0, .slice none 0 0, .int .i64 0, .int .i64 0, .int .i64 0, .int .i64 0] 30)).cell? ⟨b, off, none⟩ = some (.int .u8 23) := by
    rw [World.cell?_alloc_lt w _ ⟨b, off, none⟩ hb]
    have := hcell 0 (by omega)
    rw [Nat.add_zero, h0] at this
    exact this
  have hn0 : (0 : Int) < ((10 : Nat) : Int) := by omega
  have hkw : Below w.heap.size w ((w.alloc (.cells #[.int .i64 0, .int .i64 0, .int .i64 0, .int .u16 0, .int .u16 0, .int .u16 0, .slice none 0 0, .slice none 0 0, .int .i64 0, .int .i64 0, .int .i64 0, .int .i64 0] 30)).alloc (.cells #[.int .i64 23, .int .i64 0, .int .i64 0, .int .u16 0, .int .u16 0, .int .u16 0, .slice none 0 0, .slice none 0 0, .int .i64 0, .int .i64 0, .int .i64 0, .int .i64 0] 30)) := ((Below.refl _ _).alloc (Nat.le_refl _) _).alloc (by simp) _
  have HR := Lib.hid ((hr.below hkw).more hkw.size)
  have HX := Lib.hid hx
  have HKW := Lib.hid hkw
  have HG4 : Hid (WholeV ((w.alloc (.cells #[.int .i64 0, .int .i64 0, .int .i64 0, .int .u16 0, .int .u16 0, .int .u16 0, .slice none 0 0, .slice none 0 0, .int .i64 0, .int .i64 0, .int .i64 0, .int .i64 0] 30)).alloc (.cells #[.int .i64 23, .int .i64 0, .int .i64 0, .int .u16 0, .int .u16 0, .int .u16 0, .slice none 0 0, .slice none 0 0, .int .i64 0, .int .i64 0, .int .i64 0, .int .i64 0] 30)) (w.heap.size + 1) 30 [.int .i64 23, .int .i64 0, .int .i64 0, .int .u16 0, .int .u16 0, .int .u16 0, .slice none 0 0, .slice none 0 0, .int .i64 0, .int .i64 0, .int .i64 0, .int .i64 0]) := by
    have h := heap_alloc_new (w.alloc (.cells #[.int .i64 0, .int .i64 0, .int .i64 0, .int .u16 0, .int .u16 0, .int .u16 0, .slice none 0 0, .slice none 0 0, .int .i64 0, .int .i64 0, .int .i64 0, .int .i64 0] 30)) (.cells #[.int .i64 23, .int .i64 0, .int .i64 0, .int .u16 0, .int .u16 0, .int .u16 0, .slice none 0 0, .slice none 0 0, .int .i64 0, .int .i64 0, .int .i64 0, .int .i64 0] 30)
    rwa [show (w.alloc (.cells #[.int .i64 0, .int .i64 0, .int .i64 0, .int .u16 0, .int .u16 0, .int .u16 0, .slice none 0 0, .slice none 0 0, .int .i64 0, .int .i64 0, .int .i64 0, .int .i64 0] 30)).heap.size = w.heap.size + 1 by simp] at h
  have HG2 : Hid (WholeV ((w.alloc (.cells #[.int .i64 0, .int .i64 0, .int .i64 0, .int .u16 0, .int .u16 0, .int .u16 0, .slice none 0 0, .slice none 0 0, .int .i64 0, .int .i64 0, .int .i64 0, .int .i64 0] 30)).alloc (.cells #[.int .i64 23, .int .i64 0, .int .i64 0, .int .u16 0, .int .u16 0, .int .u16 0, .slice none 0 0, .slice none 0 0, .int .i64 0, .int .i64 0, .int .i64 0, .int .i64 0] 30)) w.heap.size 30 [.int .i64 0, .int .i64 0, .int .i64 0, .int .u16 0, .int .u16 0, .int .u16 0, .slice none 0 0, .slice none 0 0, .int .i64 0, .int .i64 0, .int .i64 0, .int .i64 0]) := by
    have h : WholeV (w.alloc (.cells #[.int .i64 0, .int .i64 0, .int .i64 0, .int .u16 0, .int .u16 0, .int .u16 0, .slice none 0 0, .slice none 0 0, .int .i64 0, .int .i64 0, .int .i64 0, .int .i64 0] 30)) w.heap.size 30 [.int .i64 0, .int .i64 0, .int .i64 0, .int .u16 0, .int .u16 0, .int .u16 0, .slice none 0 0, .slice none 0 0, .int .i64 0, .int .i64 0, .int .i64 0, .int .i64 0] := heap_alloc_new w _
    exact h.below ((Below.refl _ _).alloc (Nat.le_refl _) _) (by simp)
  have HT : Hid (∀ X, Below w.heap.size w X → Row .u8 X X.heap.size (some ⟨b, off, none⟩) 0 (zs.drop 10)) := fun X hX => row_none hr.1
  clear hr hx hcell hkw
  have H0 := Lib.hid h0
  have HU := Lib.hid hu
  clear h0 hu hq
  have Hp := Lib.hid hp
  have Hq := Lib.hid hq
  have Ha := Lib.hid ha
  have Hm := Lib.hid hm
  clear hp hq ha hm
  have HK := Lib.hid hk
  have HKN := Lib.hid hkn
  have hkb : k ≤ 1000 := by omega
  clear hk hkn
  go_enter Try.func23, Try.ntmps23
  go_wp2_with (first
    | (go_at_call 42; refine (psize_many _ 10 10 zs _ 23 9 0 HR.out HX.out (by omega) (by omega) H0.out (by omega) (by omega) HU.out).mono ?_; rintro e w' ⟨rfl, rfl⟩; rw [show ((9 : Nat) : Int) + 1 + 0 = 10 by omega])
    | (go_at_call 43; refine (pair_23 _).mono ?_; rintro e w' ⟨rfl, rfl⟩)
    | (go_at_call 44; (with_reducible refine (pnumber_any (some ⟨b, off, none⟩) 10 10 zs 5 p _ Hp.out (HR.out.drewN _) HX.out (by omega)).mono ?_); rintro e w' ⟨rfl, d5, rfl⟩)
    | (go_at_call 44; (with_reducible refine (pnumber_any (some ⟨b, off, none⟩) 10 10 zs 5 p _ Hp.out HR.out HX.out (by omega)).mono ?_); rintro e w' ⟨rfl, d5, rfl⟩)
    | (go_at_call 44; (with_reducible refine (pnumber_any (some ⟨b, off, none⟩) 10 10 zs 7 q _ Hq.out (HR.out.drewN _) HX.out (by omega)).mono ?_); rintro e w' ⟨rfl, d7, rfl⟩)
    | (go_at_call 44; (with_reducible refine (pnumber_any (some ⟨b, off, none⟩) 10 10 zs 7 q _ Hq.out HR.out HX.out (by omega)).mono ?_); rintro e w' ⟨rfl, d7, rfl⟩)
    | (go_at_call 44; (with_reducible refine (pnumber_any (some ⟨b, off, none⟩) 10 10 zs 1 a _ Ha.out (HR.out.drewN _) HX.out (by omega)).mono ?_); rintro e w' ⟨rfl, d1, rfl⟩)
    | (go_at_call 44; (with_reducible refine (pnumber_any (some ⟨b, off, none⟩) 10 10 zs 1 a _ Ha.out HR.out HX.out (by omega)).mono ?_); rintro e w' ⟨rfl, d1, rfl⟩)
    | (go_at_call 44; (with_reducible refine (pnumber_any (some ⟨b, off, none⟩) 10 10 zs 3 m _ Hm.out (HR.out.drewN _) HX.out (by omega)).mono ?_); rintro e w' ⟨rfl, d3, rfl⟩)
    | (go_at_call 44; (with_reducible refine (pnumber_any (some ⟨b, off, none⟩) 10 10 zs 3 m _ Hm.out HR.out HX.out (by omega)).mono ?_); rintro e w' ⟨rfl, d3, rfl⟩))
  obtain ⟨w3, hw3⟩ : ∃ w3, (((((((w.alloc (.cells #[.int .i64 0, .int .i64 0, .int .i64 0, .int .u16 0, .int .u16 0, .int .u16 0, .slice none 0 0, .slice none 0 0, .int .i64 0, .int .i64 0, .int .i64 0, .int .i64 0] 30)).alloc (.cells #[.int .i64 23, .int .i64 0, .int .i64 0, .int .u16 0, .int .u16 0, .int .u16 0, .slice none 0 0, .slice none 0 0, .int .i64 0, .int .i64 0, .int .i64 0, .int .i64 0] 30)).drewN (d5 + d7 + d1 + d3)).setCell ⟨w.heap.size + 1, 8, none⟩ (.int .i64 a)).setCell ⟨w.heap.size + 1, 9, none⟩ (.int .i64 m)).setCell ⟨w.heap.size + 1, 1, none⟩ (.int .i64 p)).setCell ⟨w.heap.size + 1, 2, none⟩ (.int .i64 q)) = w3 := ⟨_, rfl⟩
  have hxa : Below (w.heap.size + 1) ((w.alloc (.cells #[.int .i64 0, .int .i64 0, .int .i64 0, .int .u16 0, .int .u16 0, .int .u16 0, .slice none 0 0, .slice none 0 0, .int .i64 0, .int .i64 0, .int .i64 0, .int .i64 0] 30)).alloc (.cells #[.int .i64 23, .int .i64 0, .int .i64 0, .int .u16 0, .int .u16 0, .int .u16 0, .slice none 0 0, .slice none 0 0, .int .i64 0, .int .i64 0, .int .i64 0, .int .i64 0] 30)) w3 := by rw [← hw3]; exact (((((below_drewN (Below.refl (w.heap.size + 1) _) (d5 + d7 + d1 + d3)).setCell (p := ⟨w.heap.size + 1, 8, none⟩) (Nat.le_refl _) (.int .i64 a)).setCell (p := ⟨w.heap.size + 1, 9, none⟩) (Nat.le_refl _) (.int .i64 m)).setCell (p := ⟨w.heap.size + 1, 1, none⟩) (Nat.le_refl _) (.int .i64 p)).setCell (p := ⟨w.heap.size + 1, 2, none⟩) (Nat.le_refl _) (.int .i64 q))
  have ha4 : WholeV w3 (w.heap.size + 1) 30 [.int .i64 23, .int .i64 p, .int .i64 q, .int .u16 0, .int .u16 0, .int .u16 0, .slice none 0 0, .slice none 0 0, .int .i64 a, .int .i64 m, .int .i64 0, .int .i64 0] := by rw [← hw3]; exact (((((HG4.out.drewN (d5 + d7 + d1 + d3)).set 8 (.int .i64 a)).set 9 (.int .i64 m)).set 1 (.int .i64 p)).set 2 (.int .i64 q))
  have ha2 : WholeV w3 w.heap.size 30 [.int .i64 0, .int .i64 0, .int .i64 0, .int .u16 0, .int .u16 0, .int .u16 0, .slice none 0 0, .slice none 0 0, .int .i64 0, .int .i64 0, .int .i64 0, .int .i64 0] := HG2.out.below hxa (Nat.lt_succ_self _)
  have hab : Below w.heap.size w w3 := HKW.out.trans (hxa.mono (Nat.le_succ _))
  have hz3 : w.heap.size + 2 ≤ w3.heap.size := ha4.lt
  rw [hw3]
  have HA4 := Lib.hid ha4
  have HA2 := Lib.hid ha2
  have HAB := Lib.hid hab
  have HT3 := Lib.hid (HT.out _ hab)
  obtain ⟨hq0, hq1, hq2, hq3, hq4, hq5, hq6, hq7, hq8, hq9, hq10, hq11⟩ := cells12 ha4
  clear hw3 hxa ha4 ha2 hab HG4 HG2 HKW
  go_region_with (first
      | (go_at_call 47
         (with_reducible refine (punpacked_yes _ k 0 _ q (zs.drop 10) _ (by have := HKN.out; omega) HK.out (HT3.out.drewN 1) (HX.out.drop 10) (by omega)).mono ?_)
         rintro e w5 ⟨rfl, ho5, hb5⟩
         have hb5' : Below w3.heap.size w3 w5 := below_from (d := 1) hb5
         have h1 := HA4.out.below hb5' (show w.heap.size + 1 < w3.heap.size by omega)
         have h0 := HA2.out.below hb5' (show w.heap.size < w3.heap.size by omega)
         have HB5 : Hid (Below w.heap.size w w5) := HAB.out.trans (hb5'.mono HAB.out.size)
         obtain ⟨hs0, hs1, hs2, hs3, hs4, hs5, hs6, hs7, hs8, hs9, hs10, hs11⟩ := cells12 h1
         obtain ⟨hp0, hp1, hp2, hp3, hp4, hp5, hp6, hp7, hp8, hp9, hp10, hp11⟩ := cells12 h0
         have hf0 := h1.frozen 0
         have hg0 := h0.frozen 0
         have hf1 := h1.frozen 1
         have hg1 := h0.frozen 1
         have hf2 := h1.frozen 2
         have hg2 := h0.frozen 2
         have hf3 := h1.frozen 3
         have hg3 := h0.frozen 3
         have hf4 := h1.frozen 4
         have hg4 := h0.frozen 4
         have hf5 := h1.frozen 5
         have hg5 := h0.frozen 5
         have hf6 := h1.frozen 6
         have hg6 := h0.frozen 6
         have hf7 := h1.frozen 7
         have hg7 := h0.frozen 7
         have hf8 := h1.frozen 8
         have hg8 := h0.frozen 8
         have hf9 := h1.frozen 9
         have hg9 := h0.frozen 9
         have hf10 := h1.frozen 10
         have hg10 := h0.frozen 10
         have hf11 := h1.frozen 11
         have hg11 := h0.frozen 11
         have hz5 : w.heap.size + 2 ≤ w5.heap.size := h1.lt
         have HH1 := Lib.hid h1
         have HH0 := Lib.hid h0
         have HO5 := Lib.hid ho5
         clear h1 h0 hb5 hb5' ho5))
  all_goals
    go_wp2
    obtain ⟨X, hX⟩ : ∃ X, (w5.setCell ⟨w.heap.size + 1, 7, none⟩ (.slice (some ⟨w3.heap.size, 0, none⟩) k k)) = X := ⟨_, rfl⟩
    have hx0 : WholeV X w.heap.size 30 [.int .i64 0, .int .i64 0, .int .i64 0, .int .u16 0, .int .u16 0, .int .u16 0, .slice none 0 0, .slice none 0 0, .int .i64 0, .int .i64 0, .int .i64 0, .int .i64 0] := by rw [← hX]; exact HH0.out.below ((Below.refl (w.heap.size + 1) _).setCell (p := ⟨w.heap.size + 1, 7, none⟩) (Nat.le_refl _) _) (Nat.lt_succ_self _)
    have hxb : Below w.heap.size w X := by rw [← hX]; exact HB5.out.setCell (p := ⟨w.heap.size + 1, 7, none⟩) (Nat.le_succ _) _
    have hox : X.ownsRow w3.heap.size 26 1 (.slice (some ⟨w3.heap.size, 0, none⟩) k k) k ((wordsAt (zs.drop 10) 0 k).map (Value.int .u16)) := by rw [← hX]; exact own_far (own_of_whole HO5.out (Nat.le_refl _) (by simp [unb_length, wordsAt_length]) (by omega)) ⟨w.heap.size + 1, 7, none⟩ (show w.heap.size + 1 < w3.heap.size by omega) _
    rw [hX]
    obtain ⟨w9, hw9⟩ : ∃ w9, ((((((((((((X.setCell ⟨w.heap.size, 0, none⟩ (.int .i64 23)).setCell ⟨w.heap.size, 1, none⟩ (.int .i64 p)).setCell ⟨w.heap.size, 2, none⟩ (.int .i64 q)).setCell ⟨w.heap.size, 3, none⟩ (.int .u16 0)).setCell ⟨w.heap.size, 4, none⟩ (.int .u16 0)).setCell ⟨w.heap.size, 5, none⟩ (.int .u16 0)).setCell ⟨w.heap.size, 6, none⟩ (.slice none 0 0)).setCell ⟨w.heap.size, 7, none⟩ (.slice (some ⟨w3.heap.size, 0, none⟩) k k)).setCell ⟨w.heap.size, 8, none⟩ (.int .i64 a)).setCell ⟨w.heap.size, 9, none⟩ (.int .i64 m)).setCell ⟨w.heap.size, 10, none⟩ (.int .i64 0)).setCell ⟨w.heap.size, 11, none⟩ (.int .i64 0)) = w9 := ⟨_, rfl⟩
    have hwh := all12 hx0 (.int .i64 23) (.int .i64 p) (.int .i64 q) (.int .u16 0) (.int .u16 0) (.int .u16 0) (.slice none 0 0) (.slice (some ⟨w3.heap.size, 0, none⟩) k k) (.int .i64 a) (.int .i64 m) (.int .i64 0) (.int .i64 0) rfl
    have hbb := bel12 hxb (.int .i64 23) (.int .i64 p) (.int .i64 q) (.int .u16 0) (.int .u16 0) (.int .u16 0) (.slice none 0 0) (.slice (some ⟨w3.heap.size, 0, none⟩) k k) (.int .i64 a) (.int .i64 m) (.int .i64 0) (.int .i64 0)
    have ho9 : w9.ownsRow w3.heap.size 26 1 (.slice (some ⟨w3.heap.size, 0, none⟩) k k) k ((wordsAt (zs.drop 10) 0 k).map (Value.int .u16)) := by rw [← hw9]; exact (own_far (own_far (own_far (own_far (own_far (own_far (own_far (own_far (own_far (own_far (own_far (own_far hox ⟨w.heap.size, 0, none⟩ (show w.heap.size < w3.heap.size by omega) (.int .i64 23)) ⟨w.heap.size, 1, none⟩ (show w.heap.size < w3.heap.size by omega) (.int .i64 p)) ⟨w.heap.size, 2, none⟩ (show w.heap.size < w3.heap.size by omega) (.int .i64 q)) ⟨w.heap.size, 3, none⟩ (show w.heap.size < w3.heap.size by omega) (.int .u16 0)) ⟨w.heap.size, 4, none⟩ (show w.heap.size < w3.heap.size by omega) (.int .u16 0)) ⟨w.heap.size, 5, none⟩ (show w.heap.size < w3.heap.size by omega) (.int .u16 0)) ⟨w.heap.size, 6, none⟩ (show w.heap.size < w3.heap.size by omega) (.slice none 0 0)) ⟨w.heap.size, 7, none⟩ (show w.heap.size < w3.heap.size by omega) (.slice (some ⟨w3.heap.size, 0, none⟩) k k)) ⟨w.heap.size, 8, none⟩ (show w.heap.size < w3.heap.size by omega) (.int .i64 a)) ⟨w.heap.size, 9, none⟩ (show w.heap.size < w3.heap.size by omega) (.int .i64 m)) ⟨w.heap.size, 10, none⟩ (show w.heap.size < w3.heap.size by omega) (.int .i64 0)) ⟨w.heap.size, 11, none⟩ (show w.heap.size < w3.heap.size by omega) (.int .i64 0))
    rw [hw9] at hwh hbb
    rw [hw9]
    obtain ⟨he0, he1, he2, he3, he4, he5, he6, he7, he8, he9, he10, he11⟩ := cells12 hwh
    exact bodyPost_ret (v := .tuple #[.agg #[.int .i64 23, .int .i64 p, .int .i64 q, .int .u16 0, .int .u16 0, .int .u16 0, .slice none 0 0, .slice (some ⟨w3.heap.size, 0, none⟩) k k, .int .i64 a, .int .i64 m, .int .i64 0, .int .i64 0], .bool true]) (by simp [results, Try.results23, go_sem, he0, he1, he2, he3, he4, he5, he6, he7, he8, he9, he10, he11]) rfl ⟨_, _, rfl, own_mono ho9 HAB.out.size, hbb⟩

set_option maxRecDepth 100000 in
set_option maxHeartbeats 600000 in
theorem pfields_bad_23a (A : Option Addr) (n c : Nat) (zs : List Int) (w : World) (hr : Row .u8 w w.heap.size A n zs) (hx : Bytes8 zs) (hn : n ≤ 1000) (h1 : 1 ≤ n) (u p q a m : Int) (h0 : zs.getD 0 0 = 23) (hl : 9 < n) (hc : n ≤ c) (hcap : ¬ c = 10) (hu : zs.getD 9 0 = u) (hq : (n : Int) = 10 + u) (hp : gotW zs n 5 = p) (hq : gotW zs n 7 = q) (ha : gotW zs n 1 = a) (hm : gotW zs n 3 = m) (hbad : ¬ u = q * 2) :
    Calls Try.prog 23 #[.slice A n c] w fun e w' => e = .returned (.tuple #[.agg #[.int .i64 23, .int .i64 p, .int .i64 q, .int .u16 0, .int .u16 0, .int .u16 0, .slice none 0 0, .slice none 0 0, .int .i64 a, .int .i64 m, .int .i64 0, .int .i64 0], .bool false]) ∧ Below w.heap.size w w' := by
  obtain ⟨lop, hip⟩ := gotW_bounds hx n 5
  rw [hp] at lop hip
  obtain ⟨loq, hiq⟩ := gotW_bounds hx n 7
  rw [hq] at loq hiq
  obtain ⟨loa, hia⟩ := gotW_bounds hx n 1
  rw [ha] at loa hia
  obtain ⟨lom, him⟩ := gotW_bounds hx n 3
  rw [hm] at lom him
  obtain ⟨lou, hiu⟩ := hx.at_ 9
  change 0 ≤ zs.getD 9 0 at lou
  change zs.getD 9 0 ≤ 255 at hiu
  rw [hu] at lou hiu
  obtain ⟨t, ht⟩ : ∃ t : Nat, (t : Int) = u := ⟨u.toNat, by omega⟩
  subst ht
  have hnt : n = 10 + t := by omega
  subst hnt
  have hct : 10 < c := by omega
  obtain ⟨b, off, rfl, hb, hcell⟩ := hr.2 (by omega)
  have hc0 : (w.alloc (.cells #[.int .i64 0, .int .i64 0, .int .i64 0, .int .u16 0, .int .u16 0, .int .u16 0, .slice none 0 0, .slice none 0 0, .int .i64 0, .int .i64 0, .int .i64 0, .int .i64 0] 30)).cell? ⟨b, off, none⟩ = some (.int .u8 23) := by
    rw [World.cell?_alloc_lt w _ ⟨b, off, none⟩ hb]
    have := hcell 0 (by omega)
    rw [Nat.add_zero, h0] at this
    exact this
  have hn0 : (0 : Int) < (((10 + t) : Nat) : Int) := by omega
  have hkw : Below w.heap.size w ((w.alloc (.cells #[.int .i64 0, .int .i64 0, .int .i64 0, .int .u16 0, .int .u16 0, .int .u16 0, .slice none 0 0, .slice none 0 0, .int .i64 0, .int .i64 0, .int .i64 0, .int .i64 0] 30)).alloc (.cells #[.int .i64 23, .int .i64 0, .int .i64 0, .int .u16 0, .int .u16 0, .int .u16 0, .slice none 0 0, .slice none 0 0, .int .i64 0, .int .i64 0, .int .i64 0, .int .i64 0] 30)) := ((Below.refl _ _).alloc (Nat.le_refl _) _).alloc (by simp) _
  have HR := Lib.hid ((hr.below hkw).more hkw.size)
  have HX := Lib.hid hx
  have HKW := Lib.hid hkw
  have HG4 : Hid (WholeV ((w.alloc (.cells #[.int .i64 0, .int .i64 0, .int .i64 0, .int .u16 0, .int .u16 0, .int .u16 0, .slice none 0 0, .slice none 0 0, .int .i64 0, .int .i64 0, .int .i64 0, .int .i64 0] 30)).alloc (.cells #[.int .i64 23, .int .i64 0, .int .i64 0, .int .u16 0, .int .u16 0, .int .u16 0, .slice none 0 0, .slice none 0 0, .int .i64 0, .int .i64 0, .int .i64 0, .int .i64 0] 30)) (w.heap.size + 1) 30 [.int .i64 23, .int .i64 0, .int .i64 0, .int .u16 0, .int .u16 0, .int .u16 0, .slice none 0 0, .slice none 0 0, .int .i64 0, .int .i64 0, .int .i64 0, .int .i64 0]) := by
    have h := heap_alloc_new (w.alloc (.cells #[.int .i64 0, .int .i64 0, .int .i64 0, .int .u16 0, .int .u16 0, .int .u16 0, .slice none 0 0, .slice none 0 0, .int .i64 0, .int .i64 0, .int .i64 0, .int .i64 0] 30)) (.cells #[.int .i64 23, .int .i64 0, .int .i64 0, .int .u16 0, .int .u16 0, .int .u16 0, .slice none 0 0, .slice none 0 0, .int .i64 0, .int .i64 0, .int .i64 0, .int .i64 0] 30)
    rwa [show (w.alloc (.cells #[.int .i64 0, .int .i64 0, .int .i64 0, .int .u16 0, .int .u16 0, .int .u16 0, .slice none 0 0, .slice none 0 0, .int .i64 0, .int .i64 0, .int .i64 0, .int .i64 0] 30)).heap.size = w.heap.size + 1 by simp] at h
  have HG2 : Hid (WholeV ((w.alloc (.cells #[.int .i64 0, .int .i64 0, .int .i64 0, .int .u16 0, .int .u16 0, .int .u16 0, .slice none 0 0, .slice none 0 0, .int .i64 0, .int .i64 0, .int .i64 0, .int .i64 0] 30)).alloc (.cells #[.int .i64 23, .int .i64 0, .int .i64 0, .int .u16 0, .int .u16 0, .int .u16 0, .slice none 0 0, .slice none 0 0, .int .i64 0, .int .i64 0, .int .i64 0, .int .i64 0] 30)) w.heap.size 30 [.int .i64 0, .int .i64 0, .int .i64 0, .int .u16 0, .int .u16 0, .int .u16 0, .slice none 0 0, .slice none 0 0, .int .i64 0, .int .i64 0, .int .i64 0, .int .i64 0]) := by
    have h : WholeV (w.alloc (.cells #[.int .i64 0, .int .i64 0, .int .i64 0, .int .u16 0, .int .u16 0, .int .u16 0, .slice none 0 0, .slice none 0 0, .int .i64 0, .int .i64 0, .int .i64 0, .int .i64 0] 30)) w.heap.size 30 [.int .i64 0, .int .i64 0, .int .i64 0, .int .u16 0, .int .u16 0, .int .u16 0, .slice none 0 0, .slice none 0 0, .int .i64 0, .int .i64 0, .int .i64 0, .int .i64 0] := heap_alloc_new w _
    exact h.below ((Below.refl _ _).alloc (Nat.le_refl _) _) (by simp)
  have HT : Hid (∀ X, Below w.heap.size w X → Row .u8 X X.heap.size (some ⟨b, off + 10, none⟩) t (zs.drop 10)) := fun X hX => ((hr.below hX).more hX.size).tail rfl
  clear hr hx hcell hkw
  have H0 := Lib.hid h0
  have HU := Lib.hid hu
  clear h0 hu hq
  have Hp := Lib.hid hp
  have Hq := Lib.hid hq
  have Ha := Lib.hid ha
  have Hm := Lib.hid hm
  clear hp hq ha hm
  have HBad := Lib.hid hbad
  clear hbad
  go_enter Try.func23, Try.ntmps23
  go_wp2_with (first
    | (go_at_call 42; refine (psize_many _ (10 + t) c zs _ 23 9 (t : Int) HR.out HX.out (by omega) (by omega) H0.out (by omega) (by omega) HU.out).mono ?_; rintro e w' ⟨rfl, rfl⟩; rw [show ((9 : Nat) : Int) + 1 + (t : Int) = (((10 + t) : Nat) : Int) by omega])
    | (go_at_call 43; refine (pair_23 _).mono ?_; rintro e w' ⟨rfl, rfl⟩)
    | (go_at_call 44; (with_reducible refine (pnumber_any (some ⟨b, off, none⟩) (10 + t) c zs 5 p _ Hp.out (HR.out.drewN _) HX.out (by omega)).mono ?_); rintro e w' ⟨rfl, d5, rfl⟩)
    | (go_at_call 44; (with_reducible refine (pnumber_any (some ⟨b, off, none⟩) (10 + t) c zs 5 p _ Hp.out HR.out HX.out (by omega)).mono ?_); rintro e w' ⟨rfl, d5, rfl⟩)
    | (go_at_call 44; (with_reducible refine (pnumber_any (some ⟨b, off, none⟩) (10 + t) c zs 7 q _ Hq.out (HR.out.drewN _) HX.out (by omega)).mono ?_); rintro e w' ⟨rfl, d7, rfl⟩)
    | (go_at_call 44; (with_reducible refine (pnumber_any (some ⟨b, off, none⟩) (10 + t) c zs 7 q _ Hq.out HR.out HX.out (by omega)).mono ?_); rintro e w' ⟨rfl, d7, rfl⟩)
    | (go_at_call 44; (with_reducible refine (pnumber_any (some ⟨b, off, none⟩) (10 + t) c zs 1 a _ Ha.out (HR.out.drewN _) HX.out (by omega)).mono ?_); rintro e w' ⟨rfl, d1, rfl⟩)
    | (go_at_call 44; (with_reducible refine (pnumber_any (some ⟨b, off, none⟩) (10 + t) c zs 1 a _ Ha.out HR.out HX.out (by omega)).mono ?_); rintro e w' ⟨rfl, d1, rfl⟩)
    | (go_at_call 44; (with_reducible refine (pnumber_any (some ⟨b, off, none⟩) (10 + t) c zs 3 m _ Hm.out (HR.out.drewN _) HX.out (by omega)).mono ?_); rintro e w' ⟨rfl, d3, rfl⟩)
    | (go_at_call 44; (with_reducible refine (pnumber_any (some ⟨b, off, none⟩) (10 + t) c zs 3 m _ Hm.out HR.out HX.out (by omega)).mono ?_); rintro e w' ⟨rfl, d3, rfl⟩))
  obtain ⟨w3, hw3⟩ : ∃ w3, (((((((w.alloc (.cells #[.int .i64 0, .int .i64 0, .int .i64 0, .int .u16 0, .int .u16 0, .int .u16 0, .slice none 0 0, .slice none 0 0, .int .i64 0, .int .i64 0, .int .i64 0, .int .i64 0] 30)).alloc (.cells #[.int .i64 23, .int .i64 0, .int .i64 0, .int .u16 0, .int .u16 0, .int .u16 0, .slice none 0 0, .slice none 0 0, .int .i64 0, .int .i64 0, .int .i64 0, .int .i64 0] 30)).drewN (d5 + d7 + d1 + d3)).setCell ⟨w.heap.size + 1, 8, none⟩ (.int .i64 a)).setCell ⟨w.heap.size + 1, 9, none⟩ (.int .i64 m)).setCell ⟨w.heap.size + 1, 1, none⟩ (.int .i64 p)).setCell ⟨w.heap.size + 1, 2, none⟩ (.int .i64 q)) = w3 := ⟨_, rfl⟩
  have hxa : Below (w.heap.size + 1) ((w.alloc (.cells #[.int .i64 0, .int .i64 0, .int .i64 0, .int .u16 0, .int .u16 0, .int .u16 0, .slice none 0 0, .slice none 0 0, .int .i64 0, .int .i64 0, .int .i64 0, .int .i64 0] 30)).alloc (.cells #[.int .i64 23, .int .i64 0, .int .i64 0, .int .u16 0, .int .u16 0, .int .u16 0, .slice none 0 0, .slice none 0 0, .int .i64 0, .int .i64 0, .int .i64 0, .int .i64 0] 30)) w3 := by rw [← hw3]; exact (((((below_drewN (Below.refl (w.heap.size + 1) _) (d5 + d7 + d1 + d3)).setCell (p := ⟨w.heap.size + 1, 8, none⟩) (Nat.le_refl _) (.int .i64 a)).setCell (p := ⟨w.heap.size + 1, 9, none⟩) (Nat.le_refl _) (.int .i64 m)).setCell (p := ⟨w.heap.size + 1, 1, none⟩) (Nat.le_refl _) (.int .i64 p)).setCell (p := ⟨w.heap.size + 1, 2, none⟩) (Nat.le_refl _) (.int .i64 q))
  have ha4 : WholeV w3 (w.heap.size + 1) 30 [.int .i64 23, .int .i64 p, .int .i64 q, .int .u16 0, .int .u16 0, .int .u16 0, .slice none 0 0, .slice none 0 0, .int .i64 a, .int .i64 m, .int .i64 0, .int .i64 0] := by rw [← hw3]; exact (((((HG4.out.drewN (d5 + d7 + d1 + d3)).set 8 (.int .i64 a)).set 9 (.int .i64 m)).set 1 (.int .i64 p)).set 2 (.int .i64 q))
  have ha2 : WholeV w3 w.heap.size 30 [.int .i64 0, .int .i64 0, .int .i64 0, .int .u16 0, .int .u16 0, .int .u16 0, .slice none 0 0, .slice none 0 0, .int .i64 0, .int .i64 0, .int .i64 0, .int .i64 0] := HG2.out.below hxa (Nat.lt_succ_self _)
  have hab : Below w.heap.size w w3 := HKW.out.trans (hxa.mono (Nat.le_succ _))
  have hz3 : w.heap.size + 2 ≤ w3.heap.size := ha4.lt
  rw [hw3]
  have HA4 := Lib.hid ha4
  have HA2 := Lib.hid ha2
  have HAB := Lib.hid hab
  have HT3 := Lib.hid (HT.out _ hab)
  obtain ⟨hq0, hq1, hq2, hq3, hq4, hq5, hq6, hq7, hq8, hq9, hq10, hq11⟩ := cells12 ha4
  clear hw3 hxa ha4 ha2 hab HG4 HG2 HKW
  have hf7 := HA4.out.frozen 7
  obtain ⟨hp0, hp1, hp2, hp3, hp4, hp5, hp6, hp7, hp8, hp9, hp10, hp11⟩ := cells12 HA2.out
  have hg0 := HA2.out.frozen 0
  have hg1 := HA2.out.frozen 1
  have hg2 := HA2.out.frozen 2
  have hg3 := HA2.out.frozen 3
  have hg4 := HA2.out.frozen 4
  have hg5 := HA2.out.frozen 5
  have hg6 := HA2.out.frozen 6
  have hg7 := HA2.out.frozen 7
  have hg8 := HA2.out.frozen 8
  have hg9 := HA2.out.frozen 9
  have hg10 := HA2.out.frozen 10
  have hg11 := HA2.out.frozen 11
  go_region_with (first
    | (go_at_call 47; (with_reducible refine (punpacked_no _ t _ q _ loq hiq (by have := HBad.out; omega) (by omega)).mono ?_); rintro e w' ⟨rfl, rfl⟩))
  all_goals
    go_wp2
    obtain ⟨X, hX⟩ : ∃ X, (w3.setCell ⟨w.heap.size + 1, 7, none⟩ (.slice none 0 0)) = X := ⟨_, rfl⟩
    have hx0 : WholeV X w.heap.size 30 [.int .i64 0, .int .i64 0, .int .i64 0, .int .u16 0, .int .u16 0, .int .u16 0, .slice none 0 0, .slice none 0 0, .int .i64 0, .int .i64 0, .int .i64 0, .int .i64 0] := by rw [← hX]; exact HA2.out.below ((Below.refl (w.heap.size + 1) _).setCell (p := ⟨w.heap.size + 1, 7, none⟩) (Nat.le_refl _) _) (Nat.lt_succ_self _)
    have hxb : Below w.heap.size w X := by rw [← hX]; exact HAB.out.setCell (p := ⟨w.heap.size + 1, 7, none⟩) (Nat.le_succ _) _
    rw [hX]
    obtain ⟨w9, hw9⟩ : ∃ w9, ((((((((((((X.setCell ⟨w.heap.size, 0, none⟩ (.int .i64 23)).setCell ⟨w.heap.size, 1, none⟩ (.int .i64 p)).setCell ⟨w.heap.size, 2, none⟩ (.int .i64 q)).setCell ⟨w.heap.size, 3, none⟩ (.int .u16 0)).setCell ⟨w.heap.size, 4, none⟩ (.int .u16 0)).setCell ⟨w.heap.size, 5, none⟩ (.int .u16 0)).setCell ⟨w.heap.size, 6, none⟩ (.slice none 0 0)).setCell ⟨w.heap.size, 7, none⟩ (.slice none 0 0)).setCell ⟨w.heap.size, 8, none⟩ (.int .i64 a)).setCell ⟨w.heap.size, 9, none⟩ (.int .i64 m)).setCell ⟨w.heap.size, 10, none⟩ (.int .i64 0)).setCell ⟨w.heap.size, 11, none⟩ (.int .i64 0)) = w9 := ⟨_, rfl⟩
    have hwh := all12 hx0 (.int .i64 23) (.int .i64 p) (.int .i64 q) (.int .u16 0) (.int .u16 0) (.int .u16 0) (.slice none 0 0) (.slice none 0 0) (.int .i64 a) (.int .i64 m) (.int .i64 0) (.int .i64 0) rfl
    have hbb := bel12 hxb (.int .i64 23) (.int .i64 p) (.int .i64 q) (.int .u16 0) (.int .u16 0) (.int .u16 0) (.slice none 0 0) (.slice none 0 0) (.int .i64 a) (.int .i64 m) (.int .i64 0) (.int .i64 0)
    rw [hw9] at hwh hbb
    rw [hw9]
    obtain ⟨he0, he1, he2, he3, he4, he5, he6, he7, he8, he9, he10, he11⟩ := cells12 hwh
    exact bodyPost_ret (v := .tuple #[.agg #[.int .i64 23, .int .i64 p, .int .i64 q, .int .u16 0, .int .u16 0, .int .u16 0, .slice none 0 0, .slice none 0 0, .int .i64 a, .int .i64 m, .int .i64 0, .int .i64 0], .bool false]) (by simp [results, Try.results23, go_sem, he0, he1, he2, he3, he4, he5, he6, he7, he8, he9, he10, he11]) rfl ⟨rfl, hbb.drew⟩

set_option maxRecDepth 100000 in
set_option maxHeartbeats 600000 in
theorem pfields_bad_23b (A : Option Addr) (n c : Nat) (zs : List Int) (w : World) (hr : Row .u8 w w.heap.size A n zs) (hx : Bytes8 zs) (hn : n ≤ 1000) (h1 : 1 ≤ n) (u p q a m : Int) (h0 : zs.getD 0 0 = 23) (hl : 9 < n) (hc : n ≤ c) (hcap : c = 10) (hu : zs.getD 9 0 = u) (hq : (n : Int) = 10 + u) (hp : gotW zs n 5 = p) (hq : gotW zs n 7 = q) (ha : gotW zs n 1 = a) (hm : gotW zs n 3 = m) (hbad : ¬ u = q * 2) :
    Calls Try.prog 23 #[.slice A n c] w fun e w' => e = .returned (.tuple #[.agg #[.int .i64 23, .int .i64 p, .int .i64 q, .int .u16 0, .int .u16 0, .int .u16 0, .slice none 0 0, .slice none 0 0, .int .i64 a, .int .i64 m, .int .i64 0, .int .i64 0], .bool false]) ∧ Below w.heap.size w w' := by
  obtain ⟨lop, hip⟩ := gotW_bounds hx n 5
  rw [hp] at lop hip
  obtain ⟨loq, hiq⟩ := gotW_bounds hx n 7
  rw [hq] at loq hiq
  obtain ⟨loa, hia⟩ := gotW_bounds hx n 1
  rw [ha] at loa hia
  obtain ⟨lom, him⟩ := gotW_bounds hx n 3
  rw [hm] at lom him
  obtain ⟨lou, hiu⟩ := hx.at_ 9
  change 0 ≤ zs.getD 9 0 at lou
  change zs.getD 9 0 ≤ 255 at hiu
  rw [hu] at lou hiu
  subst hcap
  obtain rfl : n = 10 := by omega
  obtain rfl : u = 0 := by omega
  obtain ⟨b, off, rfl, hb, hcell⟩ := hr.2 (by omega)
  have hc0 : (w.alloc (.cells #[.int .i64 0, .int .i64 0, .int .i64 0, .int .u16 0, .int .u16 0, .int .u16 0, .slice none 0 0, .slice none 0 0, .int .i64 0, .int .i64 0, .int .i64 0, .int .i64 0] 30)).cell? ⟨b, off, none⟩ = some (.int .u8 23) := by
    rw [World.cell?_alloc_lt w _ ⟨b, off, none⟩ hb]
    have := hcell 0 (by omega)
    rw [Nat.add_zero, h0] at this
    exact this
  have hn0 : (0 : Int) < ((10 : Nat) : Int) := by omega
  have hkw : Below w.heap.size w ((w.alloc (.cells #[.int .i64 0, .int .i64 0, .int .i64 0, .int .u16 0, .int .u16 0, .int .u16 0, .slice none 0 0, .slice none 0 0, .int .i64 0, .int .i64 0, .int .i64 0, .int .i64 0] 30)).alloc (.cells #[.int .i64 23, .int .i64 0, .int .i64 0, .int .u16 0, .int .u16 0, .int .u16 0, .slice none 0 0, .slice none 0 0, .int .i64 0, .int .i64 0, .int .i64 0, .int .i64 0] 30)) := ((Below.refl _ _).alloc (Nat.le_refl _) _).alloc (by simp) _
  have HR := Lib.hid ((hr.below hkw).more hkw.size)
  have HX := Lib.hid hx
  have HKW := Lib.hid hkw
  have HG4 : Hid (WholeV ((w.alloc (.cells #[.int .i64 0, .int .i64 0, .int .i64 0, .int .u16 0, .int .u16 0, .int .u16 0, .slice none 0 0, .slice none 0 0, .int .i64 0, .int .i64 0, .int .i64 0, .int .i64 0] 30)).alloc (.cells #[.int .i64 23, .int .i64 0, .int .i64 0, .int .u16 0, .int .u16 0, .int .u16 0, .slice none 0 0, .slice none 0 0, .int .i64 0, .int .i64 0, .int .i64 0, .int .i64 0] 30)) (w.heap.size + 1) 30 [.int .i64 23, .int .i64 0, .int .i64 0, .int .u16 0, .int .u16 0, .int .u16 0, .slice none 0 0, .slice none 0 0, .int .i64 0, .int .i64 0, .int .i64 0, .int .i64 0]) := by
    have h := heap_alloc_new (w.alloc (.cells #[.int .i64 0, .int .i64 0, .int .i64 0, .int .u16 0, .int .u16 0, .int .u16 0, .slice none 0 0, .slice none 0 0, .int .i64 0, .int .i64 0, .int .i64 0, .int .i64 0] 30)) (.cells #[.int .i64 23, .int .i64 0, .int .i64 0, .int .u16 0, .int .u16 0, .int .u16 0, .slice none 0 0, .slice none 0 0, .int .i64 0, .int .i64 0, .int .i64 0, .int .i64 0] 30)
    rwa [show (w.alloc (.cells #[.int .i64 0, .int .i64 0, .int .i64 0, .int .u16 0, .int .u16 0, .int .u16 0, .slice none 0 0, .slice none 0 0, .int .i64 0, .int .i64 0, .int .i64 0, .int .i64 0] 30)).heap.size = w.heap.size + 1 by simp] at h
  have HG2 : Hid (WholeV ((w.alloc (.cells #[.int .i64 0, .int .i64 0, .int .i64 0, .int .u16 0, .int .u16 0, .int .u16 0, .slice none 0 0, .slice none 0 0, .int .i64 0, .int .i64 0, .int .i64 0, .int .i64 0] 30)).alloc (.cells #[.int .i64 23, .int .i64 0, .int .i64 0, .int .u16 0, .int .u16 0, .int .u16 0, .slice none 0 0, .slice none 0 0, .int .i64 0, .int .i64 0, .int .i64 0, .int .i64 0] 30)) w.heap.size 30 [.int .i64 0, .int .i64 0, .int .i64 0, .int .u16 0, .int .u16 0, .int .u16 0, .slice none 0 0, .slice none 0 0, .int .i64 0, .int .i64 0, .int .i64 0, .int .i64 0]) := by
    have h : WholeV (w.alloc (.cells #[.int .i64 0, .int .i64 0, .int .i64 0, .int .u16 0, .int .u16 0, .int .u16 0, .slice none 0 0, .slice none 0 0, .int .i64 0, .int .i64 0, .int .i64 0, .int .i64 0] 30)) w.heap.size 30 [.int .i64 0, .int .i64 0, .int .i64 0, .int .u16 0, .int .u16 0, .int .u16 0, .slice none 0 0, .slice none 0 0, .int .i64 0, .int .i64 0, .int .i64 0, .int .i64 0] := heap_alloc_new w _
    exact h.below ((Below.refl _ _).alloc (Nat.le_refl _) _) (by simp)
  have HT : Hid (∀ X, Below w.heap.size w X → Row .u8 X X.heap.size (some ⟨b, off, none⟩) 0 (zs.drop 10)) := fun X hX => row_none hr.1
  clear hr hx hcell hkw
  have H0 := Lib.hid h0
  have HU := Lib.hid hu
  clear h0 hu hq
  have Hp := Lib.hid hp
  have Hq := Lib.hid hq
  have Ha := Lib.hid ha
  have Hm := Lib.hid hm
  clear hp hq ha hm
  have HBad := Lib.hid hbad
  clear hbad
  go_enter Try.func23, Try.ntmps23
  go_wp2_with (first
    | (go_at_call 42; refine (psize_many _ 10 10 zs _ 23 9 0 HR.out HX.out (by omega) (by omega) H0.out (by omega) (by omega) HU.out).mono ?_; rintro e w' ⟨rfl, rfl⟩; rw [show ((9 : Nat) : Int) + 1 + 0 = 10 by omega])
    | (go_at_call 43; refine (pair_23 _).mono ?_; rintro e w' ⟨rfl, rfl⟩)
    | (go_at_call 44; (with_reducible refine (pnumber_any (some ⟨b, off, none⟩) 10 10 zs 5 p _ Hp.out (HR.out.drewN _) HX.out (by omega)).mono ?_); rintro e w' ⟨rfl, d5, rfl⟩)
    | (go_at_call 44; (with_reducible refine (pnumber_any (some ⟨b, off, none⟩) 10 10 zs 5 p _ Hp.out HR.out HX.out (by omega)).mono ?_); rintro e w' ⟨rfl, d5, rfl⟩)
    | (go_at_call 44; (with_reducible refine (pnumber_any (some ⟨b, off, none⟩) 10 10 zs 7 q _ Hq.out (HR.out.drewN _) HX.out (by omega)).mono ?_); rintro e w' ⟨rfl, d7, rfl⟩)
    | (go_at_call 44; (with_reducible refine (pnumber_any (some ⟨b, off, none⟩) 10 10 zs 7 q _ Hq.out HR.out HX.out (by omega)).mono ?_); rintro e w' ⟨rfl, d7, rfl⟩)
    | (go_at_call 44; (with_reducible refine (pnumber_any (some ⟨b, off, none⟩) 10 10 zs 1 a _ Ha.out (HR.out.drewN _) HX.out (by omega)).mono ?_); rintro e w' ⟨rfl, d1, rfl⟩)
    | (go_at_call 44; (with_reducible refine (pnumber_any (some ⟨b, off, none⟩) 10 10 zs 1 a _ Ha.out HR.out HX.out (by omega)).mono ?_); rintro e w' ⟨rfl, d1, rfl⟩)
    | (go_at_call 44; (with_reducible refine (pnumber_any (some ⟨b, off, none⟩) 10 10 zs 3 m _ Hm.out (HR.out.drewN _) HX.out (by omega)).mono ?_); rintro e w' ⟨rfl, d3, rfl⟩)
    | (go_at_call 44; (with_reducible refine (pnumber_any (some ⟨b, off, none⟩) 10 10 zs 3 m _ Hm.out HR.out HX.out (by omega)).mono ?_); rintro e w' ⟨rfl, d3, rfl⟩))
  obtain ⟨w3, hw3⟩ : ∃ w3, (((((((w.alloc (.cells #[.int .i64 0, .int .i64 0, .int .i64 0, .int .u16 0, .int .u16 0, .int .u16 0, .slice none 0 0, .slice none 0 0, .int .i64 0, .int .i64 0, .int .i64 0, .int .i64 0] 30)).alloc (.cells #[.int .i64 23, .int .i64 0, .int .i64 0, .int .u16 0, .int .u16 0, .int .u16 0, .slice none 0 0, .slice none 0 0, .int .i64 0, .int .i64 0, .int .i64 0, .int .i64 0] 30)).drewN (d5 + d7 + d1 + d3)).setCell ⟨w.heap.size + 1, 8, none⟩ (.int .i64 a)).setCell ⟨w.heap.size + 1, 9, none⟩ (.int .i64 m)).setCell ⟨w.heap.size + 1, 1, none⟩ (.int .i64 p)).setCell ⟨w.heap.size + 1, 2, none⟩ (.int .i64 q)) = w3 := ⟨_, rfl⟩
  have hxa : Below (w.heap.size + 1) ((w.alloc (.cells #[.int .i64 0, .int .i64 0, .int .i64 0, .int .u16 0, .int .u16 0, .int .u16 0, .slice none 0 0, .slice none 0 0, .int .i64 0, .int .i64 0, .int .i64 0, .int .i64 0] 30)).alloc (.cells #[.int .i64 23, .int .i64 0, .int .i64 0, .int .u16 0, .int .u16 0, .int .u16 0, .slice none 0 0, .slice none 0 0, .int .i64 0, .int .i64 0, .int .i64 0, .int .i64 0] 30)) w3 := by rw [← hw3]; exact (((((below_drewN (Below.refl (w.heap.size + 1) _) (d5 + d7 + d1 + d3)).setCell (p := ⟨w.heap.size + 1, 8, none⟩) (Nat.le_refl _) (.int .i64 a)).setCell (p := ⟨w.heap.size + 1, 9, none⟩) (Nat.le_refl _) (.int .i64 m)).setCell (p := ⟨w.heap.size + 1, 1, none⟩) (Nat.le_refl _) (.int .i64 p)).setCell (p := ⟨w.heap.size + 1, 2, none⟩) (Nat.le_refl _) (.int .i64 q))
  have ha4 : WholeV w3 (w.heap.size + 1) 30 [.int .i64 23, .int .i64 p, .int .i64 q, .int .u16 0, .int .u16 0, .int .u16 0, .slice none 0 0, .slice none 0 0, .int .i64 a, .int .i64 m, .int .i64 0, .int .i64 0] := by rw [← hw3]; exact (((((HG4.out.drewN (d5 + d7 + d1 + d3)).set 8 (.int .i64 a)).set 9 (.int .i64 m)).set 1 (.int .i64 p)).set 2 (.int .i64 q))
  have ha2 : WholeV w3 w.heap.size 30 [.int .i64 0, .int .i64 0, .int .i64 0, .int .u16 0, .int .u16 0, .int .u16 0, .slice none 0 0, .slice none 0 0, .int .i64 0, .int .i64 0, .int .i64 0, .int .i64 0] := HG2.out.below hxa (Nat.lt_succ_self _)
  have hab : Below w.heap.size w w3 := HKW.out.trans (hxa.mono (Nat.le_succ _))
  have hz3 : w.heap.size + 2 ≤ w3.heap.size := ha4.lt
  rw [hw3]
  have HA4 := Lib.hid ha4
  have HA2 := Lib.hid ha2
  have HAB := Lib.hid hab
  have HT3 := Lib.hid (HT.out _ hab)
  obtain ⟨hq0, hq1, hq2, hq3, hq4, hq5, hq6, hq7, hq8, hq9, hq10, hq11⟩ := cells12 ha4
  clear hw3 hxa ha4 ha2 hab HG4 HG2 HKW
  have hf7 := HA4.out.frozen 7
  obtain ⟨hp0, hp1, hp2, hp3, hp4, hp5, hp6, hp7, hp8, hp9, hp10, hp11⟩ := cells12 HA2.out
  have hg0 := HA2.out.frozen 0
  have hg1 := HA2.out.frozen 1
  have hg2 := HA2.out.frozen 2
  have hg3 := HA2.out.frozen 3
  have hg4 := HA2.out.frozen 4
  have hg5 := HA2.out.frozen 5
  have hg6 := HA2.out.frozen 6
  have hg7 := HA2.out.frozen 7
  have hg8 := HA2.out.frozen 8
  have hg9 := HA2.out.frozen 9
  have hg10 := HA2.out.frozen 10
  have hg11 := HA2.out.frozen 11
  go_region_with (first
    | (go_at_call 47; (with_reducible refine (punpacked_no _ 0 _ q _ loq hiq (by have := HBad.out; omega) (by omega)).mono ?_); rintro e w' ⟨rfl, rfl⟩))
  all_goals
    go_wp2
    obtain ⟨X, hX⟩ : ∃ X, (w3.setCell ⟨w.heap.size + 1, 7, none⟩ (.slice none 0 0)) = X := ⟨_, rfl⟩
    have hx0 : WholeV X w.heap.size 30 [.int .i64 0, .int .i64 0, .int .i64 0, .int .u16 0, .int .u16 0, .int .u16 0, .slice none 0 0, .slice none 0 0, .int .i64 0, .int .i64 0, .int .i64 0, .int .i64 0] := by rw [← hX]; exact HA2.out.below ((Below.refl (w.heap.size + 1) _).setCell (p := ⟨w.heap.size + 1, 7, none⟩) (Nat.le_refl _) _) (Nat.lt_succ_self _)
    have hxb : Below w.heap.size w X := by rw [← hX]; exact HAB.out.setCell (p := ⟨w.heap.size + 1, 7, none⟩) (Nat.le_succ _) _
    rw [hX]
    obtain ⟨w9, hw9⟩ : ∃ w9, ((((((((((((X.setCell ⟨w.heap.size, 0, none⟩ (.int .i64 23)).setCell ⟨w.heap.size, 1, none⟩ (.int .i64 p)).setCell ⟨w.heap.size, 2, none⟩ (.int .i64 q)).setCell ⟨w.heap.size, 3, none⟩ (.int .u16 0)).setCell ⟨w.heap.size, 4, none⟩ (.int .u16 0)).setCell ⟨w.heap.size, 5, none⟩ (.int .u16 0)).setCell ⟨w.heap.size, 6, none⟩ (.slice none 0 0)).setCell ⟨w.heap.size, 7, none⟩ (.slice none 0 0)).setCell ⟨w.heap.size, 8, none⟩ (.int .i64 a)).setCell ⟨w.heap.size, 9, none⟩ (.int .i64 m)).setCell ⟨w.heap.size, 10, none⟩ (.int .i64 0)).setCell ⟨w.heap.size, 11, none⟩ (.int .i64 0)) = w9 := ⟨_, rfl⟩
    have hwh := all12 hx0 (.int .i64 23) (.int .i64 p) (.int .i64 q) (.int .u16 0) (.int .u16 0) (.int .u16 0) (.slice none 0 0) (.slice none 0 0) (.int .i64 a) (.int .i64 m) (.int .i64 0) (.int .i64 0) rfl
    have hbb := bel12 hxb (.int .i64 23) (.int .i64 p) (.int .i64 q) (.int .u16 0) (.int .u16 0) (.int .u16 0) (.slice none 0 0) (.slice none 0 0) (.int .i64 a) (.int .i64 m) (.int .i64 0) (.int .i64 0)
    rw [hw9] at hwh hbb
    rw [hw9]
    obtain ⟨he0, he1, he2, he3, he4, he5, he6, he7, he8, he9, he10, he11⟩ := cells12 hwh
    exact bodyPost_ret (v := .tuple #[.agg #[.int .i64 23, .int .i64 p, .int .i64 q, .int .u16 0, .int .u16 0, .int .u16 0, .slice none 0 0, .slice none 0 0, .int .i64 a, .int .i64 m, .int .i64 0, .int .i64 0], .bool false]) (by simp [results, Try.results23, go_sem, he0, he1, he2, he3, he4, he5, he6, he7, he8, he9, he10, he11]) rfl ⟨rfl, hbb.drew⟩

set_option maxRecDepth 100000 in
set_option maxHeartbeats 600000 in
theorem pfields_yes_43 (A : Option Addr) (n c : Nat) (zs : List Int) (w : World) (hr : Row .u8 w w.heap.size A n zs) (hx : Bytes8 zs) (hn : n ≤ 1000) (h1 : 1 ≤ n) (p q x y : Int) (h0 : zs.getD 0 0 = 43) (hl : n = 4) (hv2 : zs.getD 2 0 = p) (hv3 : zs.getD 3 0 = q) (hx1 : gotW zs n 1 = x) (hx3 : gotW zs n 3 = y) :
    Calls Try.prog 23 #[.slice A n c] w fun e w' => e = .returned (.tuple #[.agg #[.int .i64 43, .int .i64 0, .int .i64 0, .int .u16 0, .int .u16 0, .int .u16 0, .slice none 0 0, .slice none 0 0, .int .i64 0, .int .i64 0, .int .i64 p, .int .i64 q], .bool true]) ∧ Below w.heap.size w w' := by
  obtain ⟨lop, hip⟩ := hx.at_ 2
  change 0 ≤ zs.getD 2 0 at lop
  change zs.getD 2 0 ≤ 255 at hip
  rw [hv2] at lop hip
  obtain ⟨loq, hiq⟩ := hx.at_ 3
  change 0 ≤ zs.getD 3 0 at loq
  change zs.getD 3 0 ≤ 255 at hiq
  rw [hv3] at loq hiq
  obtain ⟨lox, hix⟩ := gotW_bounds hx n 1
  rw [hx1] at lox hix
  obtain ⟨loy, hiy⟩ := gotW_bounds hx n 3
  rw [hx3] at loy hiy
  have wp1 : IntKind.i64.wrap p = p := IntWalk.i64_in _ (by omega)
  have wp2 : IntKind.i64.wrap q = q := IntWalk.i64_in _ (by omega)
  subst hl
  obtain ⟨b, off, rfl, hb, hcell⟩ := hr.2 (by omega)
  have hc0 : (w.alloc (.cells #[.int .i64 0, .int .i64 0, .int .i64 0, .int .u16 0, .int .u16 0, .int .u16 0, .slice none 0 0, .slice none 0 0, .int .i64 0, .int .i64 0, .int .i64 0, .int .i64 0] 30)).cell? ⟨b, off, none⟩ = some (.int .u8 43) := by
    rw [World.cell?_alloc_lt w _ ⟨b, off, none⟩ hb]
    have := hcell 0 (by omega)
    rw [Nat.add_zero, h0] at this
    exact this
  have hkw : Below w.heap.size w ((w.alloc (.cells #[.int .i64 0, .int .i64 0, .int .i64 0, .int .u16 0, .int .u16 0, .int .u16 0, .slice none 0 0, .slice none 0 0, .int .i64 0, .int .i64 0, .int .i64 0, .int .i64 0] 30)).alloc (.cells #[.int .i64 43, .int .i64 0, .int .i64 0, .int .u16 0, .int .u16 0, .int .u16 0, .slice none 0 0, .slice none 0 0, .int .i64 0, .int .i64 0, .int .i64 0, .int .i64 0] 30)) := ((Below.refl _ _).alloc (Nat.le_refl _) _).alloc (by simp) _
  have HR := Lib.hid ((hr.below hkw).more hkw.size)
  have HX := Lib.hid hx
  have HKW := Lib.hid hkw
  have HG4 : Hid (WholeV ((w.alloc (.cells #[.int .i64 0, .int .i64 0, .int .i64 0, .int .u16 0, .int .u16 0, .int .u16 0, .slice none 0 0, .slice none 0 0, .int .i64 0, .int .i64 0, .int .i64 0, .int .i64 0] 30)).alloc (.cells #[.int .i64 43, .int .i64 0, .int .i64 0, .int .u16 0, .int .u16 0, .int .u16 0, .slice none 0 0, .slice none 0 0, .int .i64 0, .int .i64 0, .int .i64 0, .int .i64 0] 30)) (w.heap.size + 1) 30 [.int .i64 43, .int .i64 0, .int .i64 0, .int .u16 0, .int .u16 0, .int .u16 0, .slice none 0 0, .slice none 0 0, .int .i64 0, .int .i64 0, .int .i64 0, .int .i64 0]) := by
    have h := heap_alloc_new (w.alloc (.cells #[.int .i64 0, .int .i64 0, .int .i64 0, .int .u16 0, .int .u16 0, .int .u16 0, .slice none 0 0, .slice none 0 0, .int .i64 0, .int .i64 0, .int .i64 0, .int .i64 0] 30)) (.cells #[.int .i64 43, .int .i64 0, .int .i64 0, .int .u16 0, .int .u16 0, .int .u16 0, .slice none 0 0, .slice none 0 0, .int .i64 0, .int .i64 0, .int .i64 0, .int .i64 0] 30)
    rwa [show (w.alloc (.cells #[.int .i64 0, .int .i64 0, .int .i64 0, .int .u16 0, .int .u16 0, .int .u16 0, .slice none 0 0, .slice none 0 0, .int .i64 0, .int .i64 0, .int .i64 0, .int .i64 0] 30)).heap.size = w.heap.size + 1 by simp] at h
  have HG2 : Hid (WholeV ((w.alloc (.cells #[.int .i64 0, .int .i64 0, .int .i64 0, .int .u16 0, .int .u16 0, .int .u16 0, .slice none 0 0, .slice none 0 0, .int .i64 0, .int .i64 0, .int .i64 0, .int .i64 0] 30)).alloc (.cells #[.int .i64 43, .int .i64 0, .int .i64 0, .int .u16 0, .int .u16 0, .int .u16 0, .slice none 0 0, .slice none 0 0, .int .i64 0, .int .i64 0, .int .i64 0, .int .i64 0] 30)) w.heap.size 30 [.int .i64 0, .int .i64 0, .int .i64 0, .int .u16 0, .int .u16 0, .int .u16 0, .slice none 0 0, .slice none 0 0, .int .i64 0, .int .i64 0, .int .i64 0, .int .i64 0]) := by
    have h : WholeV (w.alloc (.cells #[.int .i64 0, .int .i64 0, .int .i64 0, .int .u16 0, .int .u16 0, .int .u16 0, .slice none 0 0, .slice none 0 0, .int .i64 0, .int .i64 0, .int .i64 0, .int .i64 0] 30)) w.heap.size 30 [.int .i64 0, .int .i64 0, .int .i64 0, .int .u16 0, .int .u16 0, .int .u16 0, .slice none 0 0, .slice none 0 0, .int .i64 0, .int .i64 0, .int .i64 0, .int .i64 0] := heap_alloc_new w _
    exact h.below ((Below.refl _ _).alloc (Nat.le_refl _) _) (by simp)
  have HC2 : Hid (∀ X, Below w.heap.size w X → X.cell? ⟨b, off + 2, none⟩ = some (.int .u8 p)) := fun X hX => by rw [hX.cell hb, hcell 2 (by omega), hv2]
  have HC3 : Hid (∀ X, Below w.heap.size w X → X.cell? ⟨b, off + 3, none⟩ = some (.int .u8 q)) := fun X hX => by rw [hX.cell hb, hcell 3 (by omega), hv3]
  clear hv2 hv3
  clear hr hx hcell hkw
  have H0 := Lib.hid h0
  have Hx := Lib.hid hx1
  have Hy := Lib.hid hx3
  clear h0 hx1 hx3
  go_enter Try.func23, Try.ntmps23
  go_wp2_with (first
    | (go_at_call 42; refine (psize_43 _ 4 c zs _ HR.out (by omega) (by omega) H0.out).mono ?_; rintro e w' ⟨rfl, rfl⟩)
    | (go_at_call 43; refine (pair_other _ _ (by omega)).mono ?_; rintro e w' ⟨rfl, rfl⟩)
    | (go_at_call 44; (with_reducible refine (pnumber_any (some ⟨b, off, none⟩) 4 c zs 1 x _ Hx.out (HR.out.drewN _) HX.out (by omega)).mono ?_); rintro e w' ⟨rfl, d1, rfl⟩)
    | (go_at_call 44; (with_reducible refine (pnumber_any (some ⟨b, off, none⟩) 4 c zs 1 x _ Hx.out HR.out HX.out (by omega)).mono ?_); rintro e w' ⟨rfl, d1, rfl⟩)
    | (go_at_call 44; (with_reducible refine (pnumber_any (some ⟨b, off, none⟩) 4 c zs 3 y _ Hy.out (HR.out.drewN _) HX.out (by omega)).mono ?_); rintro e w' ⟨rfl, d3, rfl⟩)
    | (go_at_call 44; (with_reducible refine (pnumber_any (some ⟨b, off, none⟩) 4 c zs 3 y _ Hy.out HR.out HX.out (by omega)).mono ?_); rintro e w' ⟨rfl, d3, rfl⟩))
  obtain ⟨w3, hw3⟩ : ∃ w3, (((w.alloc (.cells #[.int .i64 0, .int .i64 0, .int .i64 0, .int .u16 0, .int .u16 0, .int .u16 0, .slice none 0 0, .slice none 0 0, .int .i64 0, .int .i64 0, .int .i64 0, .int .i64 0] 30)).alloc (.cells #[.int .i64 43, .int .i64 0, .int .i64 0, .int .u16 0, .int .u16 0, .int .u16 0, .slice none 0 0, .slice none 0 0, .int .i64 0, .int .i64 0, .int .i64 0, .int .i64 0] 30)).drewN (d1 + d3)) = w3 := ⟨_, rfl⟩
  have hxa : Below (w.heap.size + 1) ((w.alloc (.cells #[.int .i64 0, .int .i64 0, .int .i64 0, .int .u16 0, .int .u16 0, .int .u16 0, .slice none 0 0, .slice none 0 0, .int .i64 0, .int .i64 0, .int .i64 0, .int .i64 0] 30)).alloc (.cells #[.int .i64 43, .int .i64 0, .int .i64 0, .int .u16 0, .int .u16 0, .int .u16 0, .slice none 0 0, .slice none 0 0, .int .i64 0, .int .i64 0, .int .i64 0, .int .i64 0] 30)) w3 := by rw [← hw3]; exact below_drewN (Below.refl (w.heap.size + 1) _) (d1 + d3)
  have ha4 : WholeV w3 (w.heap.size + 1) 30 [.int .i64 43, .int .i64 0, .int .i64 0, .int .u16 0, .int .u16 0, .int .u16 0, .slice none 0 0, .slice none 0 0, .int .i64 0, .int .i64 0, .int .i64 0, .int .i64 0] := by rw [← hw3]; exact HG4.out.drewN (d1 + d3)
  have ha2 : WholeV w3 w.heap.size 30 [.int .i64 0, .int .i64 0, .int .i64 0, .int .u16 0, .int .u16 0, .int .u16 0, .slice none 0 0, .slice none 0 0, .int .i64 0, .int .i64 0, .int .i64 0, .int .i64 0] := HG2.out.below hxa (Nat.lt_succ_self _)
  have hab : Below w.heap.size w w3 := HKW.out.trans (hxa.mono (Nat.le_succ _))
  have hz3 : w.heap.size + 2 ≤ w3.heap.size := ha4.lt
  rw [hw3]
  have hcb2 := HC2.out _ hab
  have hcb3 := HC3.out _ hab
  have hne : ¬ b = w.heap.size + 1 := by omega
  have hne' : ¬ w.heap.size + 1 = b := by omega
  have HA4 := Lib.hid ha4
  have HA2 := Lib.hid ha2
  have HAB := Lib.hid hab
  obtain ⟨hq0, hq1, hq2, hq3, hq4, hq5, hq6, hq7, hq8, hq9, hq10, hq11⟩ := cells12 ha4
  obtain ⟨hp0, hp1, hp2, hp3, hp4, hp5, hp6, hp7, hp8, hp9, hp10, hp11⟩ := cells12 ha2
  have hf10 := ha4.frozen 10
  have hf11 := ha4.frozen 11
  have hg0 := ha2.frozen 0
  have hg1 := ha2.frozen 1
  have hg2 := ha2.frozen 2
  have hg3 := ha2.frozen 3
  have hg4 := ha2.frozen 4
  have hg5 := ha2.frozen 5
  have hg6 := ha2.frozen 6
  have hg7 := ha2.frozen 7
  have hg8 := ha2.frozen 8
  have hg9 := ha2.frozen 9
  have hg10 := ha2.frozen 10
  have hg11 := ha2.frozen 11
  clear hw3 hxa ha4 ha2 hab HG4 HG2 HKW HC2 HC3
  go_region
  all_goals
    go_wp2
    first
      | (obtain ⟨X, hX⟩ : ∃ X, ((w3.setCell ⟨w.heap.size + 1, 10, none⟩ (.int .i64 p)).setCell ⟨w.heap.size + 1, 11, none⟩ (.int .i64 q)) = X := ⟨_, rfl⟩
         have hx0 : WholeV X w.heap.size 30 [.int .i64 0, .int .i64 0, .int .i64 0, .int .u16 0, .int .u16 0, .int .u16 0, .slice none 0 0, .slice none 0 0, .int .i64 0, .int .i64 0, .int .i64 0, .int .i64 0] := by rw [← hX]; exact HA2.out.below (((Below.refl (w.heap.size + 1) _).setCell (p := ⟨w.heap.size + 1, 10, none⟩) (Nat.le_refl _) (.int .i64 p)).setCell (p := ⟨w.heap.size + 1, 11, none⟩) (Nat.le_refl _) (.int .i64 q)) (Nat.lt_succ_self _)
         have hxb : Below w.heap.size w X := by rw [← hX]; exact ((HAB.out.setCell (p := ⟨w.heap.size + 1, 10, none⟩) (Nat.le_succ _) (.int .i64 p)).setCell (p := ⟨w.heap.size + 1, 11, none⟩) (Nat.le_succ _) (.int .i64 q))
         rw [hX]
         obtain ⟨w9, hw9⟩ : ∃ w9, ((((((((((((X.setCell ⟨w.heap.size, 0, none⟩ (.int .i64 43)).setCell ⟨w.heap.size, 1, none⟩ (.int .i64 0)).setCell ⟨w.heap.size, 2, none⟩ (.int .i64 0)).setCell ⟨w.heap.size, 3, none⟩ (.int .u16 0)).setCell ⟨w.heap.size, 4, none⟩ (.int .u16 0)).setCell ⟨w.heap.size, 5, none⟩ (.int .u16 0)).setCell ⟨w.heap.size, 6, none⟩ (.slice none 0 0)).setCell ⟨w.heap.size, 7, none⟩ (.slice none 0 0)).setCell ⟨w.heap.size, 8, none⟩ (.int .i64 0)).setCell ⟨w.heap.size, 9, none⟩ (.int .i64 0)).setCell ⟨w.heap.size, 10, none⟩ (.int .i64 p)).setCell ⟨w.heap.size, 11, none⟩ (.int .i64 q)) = w9 := ⟨_, rfl⟩
         have hwh := all12 hx0 (.int .i64 43) (.int .i64 0) (.int .i64 0) (.int .u16 0) (.int .u16 0) (.int .u16 0) (.slice none 0 0) (.slice none 0 0) (.int .i64 0) (.int .i64 0) (.int .i64 p) (.int .i64 q) rfl
         have hbb := bel12 hxb (.int .i64 43) (.int .i64 0) (.int .i64 0) (.int .u16 0) (.int .u16 0) (.int .u16 0) (.slice none 0 0) (.slice none 0 0) (.int .i64 0) (.int .i64 0) (.int .i64 p) (.int .i64 q)
         rw [hw9] at hwh hbb
         rw [hw9]
         obtain ⟨he0, he1, he2, he3, he4, he5, he6, he7, he8, he9, he10, he11⟩ := cells12 hwh
         exact bodyPost_ret (v := .tuple #[.agg #[.int .i64 43, .int .i64 0, .int .i64 0, .int .u16 0, .int .u16 0, .int .u16 0, .slice none 0 0, .slice none 0 0, .int .i64 0, .int .i64 0, .int .i64 p, .int .i64 q], .bool true]) (by simp [results, Try.results23, go_sem, he0, he1, he2, he3, he4, he5, he6, he7, he8, he9, he10, he11]) rfl ⟨rfl, hbb.drew⟩)
      | (obtain ⟨X, hX⟩ : ∃ X, ((w3.setCell ⟨w.heap.size + 1, 11, none⟩ (.int .i64 q)).setCell ⟨w.heap.size + 1, 10, none⟩ (.int .i64 p)) = X := ⟨_, rfl⟩
         have hx0 : WholeV X w.heap.size 30 [.int .i64 0, .int .i64 0, .int .i64 0, .int .u16 0, .int .u16 0, .int .u16 0, .slice none 0 0, .slice none 0 0, .int .i64 0, .int .i64 0, .int .i64 0, .int .i64 0] := by rw [← hX]; exact HA2.out.below (((Below.refl (w.heap.size + 1) _).setCell (p := ⟨w.heap.size + 1, 11, none⟩) (Nat.le_refl _) (.int .i64 q)).setCell (p := ⟨w.heap.size + 1, 10, none⟩) (Nat.le_refl _) (.int .i64 p)) (Nat.lt_succ_self _)
         have hxb : Below w.heap.size w X := by rw [← hX]; exact ((HAB.out.setCell (p := ⟨w.heap.size + 1, 11, none⟩) (Nat.le_succ _) (.int .i64 q)).setCell (p := ⟨w.heap.size + 1, 10, none⟩) (Nat.le_succ _) (.int .i64 p))
         rw [hX]
         obtain ⟨w9, hw9⟩ : ∃ w9, ((((((((((((X.setCell ⟨w.heap.size, 0, none⟩ (.int .i64 43)).setCell ⟨w.heap.size, 1, none⟩ (.int .i64 0)).setCell ⟨w.heap.size, 2, none⟩ (.int .i64 0)).setCell ⟨w.heap.size, 3, none⟩ (.int .u16 0)).setCell ⟨w.heap.size, 4, none⟩ (.int .u16 0)).setCell ⟨w.heap.size, 5, none⟩ (.int .u16 0)).setCell ⟨w.heap.size, 6, none⟩ (.slice none 0 0)).setCell ⟨w.heap.size, 7, none⟩ (.slice none 0 0)).setCell ⟨w.heap.size, 8, none⟩ (.int .i64 0)).setCell ⟨w.heap.size, 9, none⟩ (.int .i64 0)).setCell ⟨w.heap.size, 10, none⟩ (.int .i64 p)).setCell ⟨w.heap.size, 11, none⟩ (.int .i64 q)) = w9 := ⟨_, rfl⟩
         have hwh := all12 hx0 (.int .i64 43) (.int .i64 0) (.int .i64 0) (.int .u16 0) (.int .u16 0) (.int .u16 0) (.slice none 0 0) (.slice none 0 0) (.int .i64 0) (.int .i64 0) (.int .i64 p) (.int .i64 q) rfl
         have hbb := bel12 hxb (.int .i64 43) (.int .i64 0) (.int .i64 0) (.int .u16 0) (.int .u16 0) (.int .u16 0) (.slice none 0 0) (.slice none 0 0) (.int .i64 0) (.int .i64 0) (.int .i64 p) (.int .i64 q)
         rw [hw9] at hwh hbb
         rw [hw9]
         obtain ⟨he0, he1, he2, he3, he4, he5, he6, he7, he8, he9, he10, he11⟩ := cells12 hwh
         exact bodyPost_ret (v := .tuple #[.agg #[.int .i64 43, .int .i64 0, .int .i64 0, .int .u16 0, .int .u16 0, .int .u16 0, .slice none 0 0, .slice none 0 0, .int .i64 0, .int .i64 0, .int .i64 p, .int .i64 q], .bool true]) (by simp [results, Try.results23, go_sem, he0, he1, he2, he3, he4, he5, he6, he7, he8, he9, he10, he11]) rfl ⟨rfl, hbb.drew⟩)

end Go.Proofs.Ytebpilfogdenjaa

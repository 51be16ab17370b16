/- Package ask: fields. -/
import Derived.Test.YtebpilfogdenjaaPUnp
import Derived.Test.YtebpilfogdenjaaAskBox
namespace Go.Proofs.Ytebpilfogdenjaa
open Go.ChangeShapes Go.WideShapes Go.ChangeAt Go.RowKit
set_option linter.unusedVariables false
set_option linter.unusedSimpArgs false

set_option maxRecDepth 100000 in
set_option maxHeartbeats 600000 in
theorem pfields_len_1 (A : Option Addr) (n c : Nat) (zs : List Int) (w : World) (hr : Row .u8 w w.heap.size A n zs) (hx : Bytes8 zs) (hn : n ≤ 1000) (h1 : 1 ≤ n) (h0 : zs.getD 0 0 = 1) (hl : n ≠ 5) :
    Calls Try.prog 23 #[.slice A n c] w fun e w' => e = .returned (.tuple #[.agg #[.int .i64 1, .int .i64 0, .int .i64 0, .int .u16 0, .int .u16 0, .int .u16 0, .slice none 0 0, .slice none 0 0, .int .i64 0, .int .i64 0, .int .i64 0, .int .i64 0], .bool false]) ∧ Below w.heap.size w w' := by
  have hl' : ¬ (n : Int) = 5 := by omega
  obtain ⟨b, off, rfl, hb, hcell⟩ := hr.2 (by omega)
  have hc0 : (w.alloc (.cells #[.int .i64 0, .int .i64 0, .int .i64 0, .int .u16 0, .int .u16 0, .int .u16 0, .slice none 0 0, .slice none 0 0, .int .i64 0, .int .i64 0, .int .i64 0, .int .i64 0] 30)).cell? ⟨b, off, none⟩ = some (.int .u8 1) := by
    rw [World.cell?_alloc_lt w _ ⟨b, off, none⟩ hb]
    have := hcell 0 (by omega)
    rw [Nat.add_zero, h0] at this
    exact this
  have hn0 : (0 : Int) < (n : Int) := by omega
  have hkw : Below w.heap.size w ((w.alloc (.cells #[.int .i64 0, .int .i64 0, .int .i64 0, .int .u16 0, .int .u16 0, .int .u16 0, .slice none 0 0, .slice none 0 0, .int .i64 0, .int .i64 0, .int .i64 0, .int .i64 0] 30)).alloc (.cells #[.int .i64 1, .int .i64 0, .int .i64 0, .int .u16 0, .int .u16 0, .int .u16 0, .slice none 0 0, .slice none 0 0, .int .i64 0, .int .i64 0, .int .i64 0, .int .i64 0] 30)) := ((Below.refl _ _).alloc (Nat.le_refl _) _).alloc (by simp) _
  have HR := Lib.hid ((hr.below hkw).more hkw.size)
  have HX := Lib.hid hx
  clear hr hx hcell hkw
  have H0 := Lib.hid h0
  clear h0
  go_enter Try.func23, Try.ntmps23
  go_wp2_with (go_at_call 42; refine (psize_5 _ n c zs _ 1 HR.out hn h1 H0.out (by omega)).mono ?_; rintro e w' ⟨rfl, rfl⟩)
  exact bodyPost_ret (v := .tuple #[.agg #[.int .i64 1, .int .i64 0, .int .i64 0, .int .u16 0, .int .u16 0, .int .u16 0, .slice none 0 0, .slice none 0 0, .int .i64 0, .int .i64 0, .int .i64 0, .int .i64 0], .bool false]) (by simp [results, Try.results23, go_sem]) rfl ⟨rfl, ((Below.refl _ _).alloc (Nat.le_refl _) _).alloc (by simp) _⟩

set_option maxRecDepth 100000 in
set_option maxHeartbeats 600000 in
theorem pfields_len_2 (A : Option Addr) (n c : Nat) (zs : List Int) (w : World) (hr : Row .u8 w w.heap.size A n zs) (hx : Bytes8 zs) (hn : n ≤ 1000) (h1 : 1 ≤ n) (h0 : zs.getD 0 0 = 2) (hl : n ≠ 5) :
    Calls Try.prog 23 #[.slice A n c] w fun e w' => e = .returned (.tuple #[.agg #[.int .i64 2, .int .i64 0, .int .i64 0, .int .u16 0, .int .u16 0, .int .u16 0, .slice none 0 0, .slice none 0 0, .int .i64 0, .int .i64 0, .int .i64 0, .int .i64 0], .bool false]) ∧ Below w.heap.size w w' := by
  have hl' : ¬ (n : Int) = 5 := by omega
  obtain ⟨b, off, rfl, hb, hcell⟩ := hr.2 (by omega)
  have hc0 : (w.alloc (.cells #[.int .i64 0, .int .i64 0, .int .i64 0, .int .u16 0, .int .u16 0, .int .u16 0, .slice none 0 0, .slice none 0 0, .int .i64 0, .int .i64 0, .int .i64 0, .int .i64 0] 30)).cell? ⟨b, off, none⟩ = some (.int .u8 2) := by
    rw [World.cell?_alloc_lt w _ ⟨b, off, none⟩ hb]
    have := hcell 0 (by omega)
    rw [Nat.add_zero, h0] at this
    exact this
  have hn0 : (0 : Int) < (n : Int) := by omega
  have hkw : Below w.heap.size w ((w.alloc (.cells #[.int .i64 0, .int .i64 0, .int .i64 0, .int .u16 0, .int .u16 0, .int .u16 0, .slice none 0 0, .slice none 0 0, .int .i64 0, .int .i64 0, .int .i64 0, .int .i64 0] 30)).alloc (.cells #[.int .i64 2, .int .i64 0, .int .i64 0, .int .u16 0, .int .u16 0, .int .u16 0, .slice none 0 0, .slice none 0 0, .int .i64 0, .int .i64 0, .int .i64 0, .int .i64 0] 30)) := ((Below.refl _ _).alloc (Nat.le_refl _) _).alloc (by simp) _
  have HR := Lib.hid ((hr.below hkw).more hkw.size)
  have HX := Lib.hid hx
  clear hr hx hcell hkw
  have H0 := Lib.hid h0
  clear h0
  go_enter Try.func23, Try.ntmps23
  go_wp2_with (go_at_call 42; refine (psize_5 _ n c zs _ 2 HR.out hn h1 H0.out (by omega)).mono ?_; rintro e w' ⟨rfl, rfl⟩)
  exact bodyPost_ret (v := .tuple #[.agg #[.int .i64 2, .int .i64 0, .int .i64 0, .int .u16 0, .int .u16 0, .int .u16 0, .slice none 0 0, .slice none 0 0, .int .i64 0, .int .i64 0, .int .i64 0, .int .i64 0], .bool false]) (by simp [results, Try.results23, go_sem]) rfl ⟨rfl, ((Below.refl _ _).alloc (Nat.le_refl _) _).alloc (by simp) _⟩

set_option maxRecDepth 100000 in
set_option maxHeartbeats 600000 in
theorem pfields_len_3 (A : Option Addr) (n c : Nat) (zs : List Int) (w : World) (hr : Row .u8 w w.heap.size A n zs) (hx : Bytes8 zs) (hn : n ≤ 1000) (h1 : 1 ≤ n) (h0 : zs.getD 0 0 = 3) (hl : n ≠ 5) :
    Calls Try.prog 23 #[.slice A n c] w fun e w' => e = .returned (.tuple #[.agg #[.int .i64 3, .int .i64 0, .int .i64 0, .int .u16 0, .int .u16 0, .int .u16 0, .slice none 0 0, .slice none 0 0, .int .i64 0, .int .i64 0, .int .i64 0, .int .i64 0], .bool false]) ∧ Below w.heap.size w w' := by
  have hl' : ¬ (n : Int) = 5 := by omega
  obtain ⟨b, off, rfl, hb, hcell⟩ := hr.2 (by omega)
  have hc0 : (w.alloc (.cells #[.int .i64 0, .int .i64 0, .int .i64 0, .int .u16 0, .int .u16 0, .int .u16 0, .slice none 0 0, .slice none 0 0, .int .i64 0, .int .i64 0, .int .i64 0, .int .i64 0] 30)).cell? ⟨b, off, none⟩ = some (.int .u8 3) := by
    rw [World.cell?_alloc_lt w _ ⟨b, off, none⟩ hb]
    have := hcell 0 (by omega)
    rw [Nat.add_zero, h0] at this
    exact this
  have hn0 : (0 : Int) < (n : Int) := by omega
  have hkw : Below w.heap.size w ((w.alloc (.cells #[.int .i64 0, .int .i64 0, .int .i64 0, .int .u16 0, .int .u16 0, .int .u16 0, .slice none 0 0, .slice none 0 0, .int .i64 0, .int .i64 0, .int .i64 0, .int .i64 0] 30)).alloc (.cells #[.int .i64 3, .int .i64 0, .int .i64 0, .int .u16 0, .int .u16 0, .int .u16 0, .slice none 0 0, .slice none 0 0, .int .i64 0, .int .i64 0, .int .i64 0, .int .i64 0] 30)) := ((Below.refl _ _).alloc (Nat.le_refl _) _).alloc (by simp) _
  have HR := Lib.hid ((hr.below hkw).more hkw.size)
  have HX := Lib.hid hx
  clear hr hx hcell hkw
  have H0 := Lib.hid h0
  clear h0
  go_enter Try.func23, Try.ntmps23
  go_wp2_with (go_at_call 42; refine (psize_5 _ n c zs _ 3 HR.out hn h1 H0.out (by omega)).mono ?_; rintro e w' ⟨rfl, rfl⟩)
  exact bodyPost_ret (v := .tuple #[.agg #[.int .i64 3, .int .i64 0, .int .i64 0, .int .u16 0, .int .u16 0, .int .u16 0, .slice none 0 0, .slice none 0 0, .int .i64 0, .int .i64 0, .int .i64 0, .int .i64 0], .bool false]) (by simp [results, Try.results23, go_sem]) rfl ⟨rfl, ((Below.refl _ _).alloc (Nat.le_refl _) _).alloc (by simp) _⟩

set_option maxRecDepth 100000 in
set_option maxHeartbeats 600000 in
theorem pfields_len_4 (A : Option Addr) (n c : Nat) (zs : List Int) (w : World) (hr : Row .u8 w w.heap.size A n zs) (hx : Bytes8 zs) (hn : n ≤ 1000) (h1 : 1 ≤ n) (h0 : zs.getD 0 0 = 4) (hl : n ≠ 5) :
    Calls Try.prog 23 #[.slice A n c] w fun e w' => e = .returned (.tuple #[.agg #[.int .i64 4, .int .i64 0, .int .i64 0, .int .u16 0, .int .u16 0, .int .u16 0, .slice none 0 0, .slice none 0 0, .int .i64 0, .int .i64 0, .int .i64 0, .int .i64 0], .bool false]) ∧ Below w.heap.size w w' := by
  have hl' : ¬ (n : Int) = 5 := by omega
  obtain ⟨b, off, rfl, hb, hcell⟩ := hr.2 (by omega)
  have hc0 : (w.alloc (.cells #[.int .i64 0, .int .i64 0, .int .i64 0, .int .u16 0, .int .u16 0, .int .u16 0, .slice none 0 0, .slice none 0 0, .int .i64 0, .int .i64 0, .int .i64 0, .int .i64 0] 30)).cell? ⟨b, off, none⟩ = some (.int .u8 4) := by
    rw [World.cell?_alloc_lt w _ ⟨b, off, none⟩ hb]
    have := hcell 0 (by omega)
    rw [Nat.add_zero, h0] at this
    exact this
  have hn0 : (0 : Int) < (n : Int) := by omega
  have hkw : Below w.heap.size w ((w.alloc (.cells #[.int .i64 0, .int .i64 0, .int .i64 0, .int .u16 0, .int .u16 0, .int .u16 0, .slice none 0 0, .slice none 0 0, .int .i64 0, .int .i64 0, .int .i64 0, .int .i64 0] 30)).alloc (.cells #[.int .i64 4, .int .i64 0, .int .i64 0, .int .u16 0, .int .u16 0, .int .u16 0, .slice none 0 0, .slice none 0 0, .int .i64 0, .int .i64 0, .int .i64 0, .int .i64 0] 30)) := ((Below.refl _ _).alloc (Nat.le_refl _) _).alloc (by simp) _
  have HR := Lib.hid ((hr.below hkw).more hkw.size)
  have HX := Lib.hid hx
  clear hr hx hcell hkw
  have H0 := Lib.hid h0
  clear h0
  go_enter Try.func23, Try.ntmps23
  go_wp2_with (go_at_call 42; refine (psize_5 _ n c zs _ 4 HR.out hn h1 H0.out (by omega)).mono ?_; rintro e w' ⟨rfl, rfl⟩)
  exact bodyPost_ret (v := .tuple #[.agg #[.int .i64 4, .int .i64 0, .int .i64 0, .int .u16 0, .int .u16 0, .int .u16 0, .slice none 0 0, .slice none 0 0, .int .i64 0, .int .i64 0, .int .i64 0, .int .i64 0], .bool false]) (by simp [results, Try.results23, go_sem]) rfl ⟨rfl, ((Below.refl _ _).alloc (Nat.le_refl _) _).alloc (by simp) _⟩

set_option maxRecDepth 100000 in
set_option maxHeartbeats 600000 in
theorem pfields_len_5 (A : Option Addr) (n c : Nat) (zs : List Int) (w : World) (hr : Row .u8 w w.heap.size A n zs) (hx : Bytes8 zs) (hn : n ≤ 1000) (h1 : 1 ≤ n) (h0 : zs.getD 0 0 = 5) (hl : n ≠ 5) :
    Calls Try.prog 23 #[.slice A n c] w fun e w' => e = .returned (.tuple #[.agg #[.int .i64 5, .int .i64 0, .int .i64 0, .int .u16 0, .int .u16 0, .int .u16 0, .slice none 0 0, .slice none 0 0, .int .i64 0, .int .i64 0, .int .i64 0, .int .i64 0], .bool false]) ∧ Below w.heap.size w w' := by
  have hl' : ¬ (n : Int) = 5 := by omega
  obtain ⟨b, off, rfl, hb, hcell⟩ := hr.2 (by omega)
  have hc0 : (w.alloc (.cells #[.int .i64 0, .int .i64 0, .int .i64 0, .int .u16 0, .int .u16 0, .int .u16 0, .slice none 0 0, .slice none 0 0, .int .i64 0, .int .i64 0, .int .i64 0, .int .i64 0] 30)).cell? ⟨b, off, none⟩ = some (.int .u8 5) := by
    rw [World.cell?_alloc_lt w _ ⟨b, off, none⟩ hb]
    have := hcell 0 (by omega)
    rw [Nat.add_zero, h0] at this
    exact this
  have hn0 : (0 : Int) < (n : Int) := by omega
  have hkw : Below w.heap.size w ((w.alloc (.cells #[.int .i64 0, .int .i64 0, .int .i64 0, .int .u16 0, .int .u16 0, .int .u16 0, .slice none 0 0, .slice none 0 0, .int .i64 0, .int .i64 0, .int .i64 0, .int .i64 0] 30)).alloc (.cells #[.int .i64 5, .int .i64 0, .int .i64 0, .int .u16 0, .int .u16 0, .int .u16 0, .slice none 0 0, .slice none 0 0, .int .i64 0, .int .i64 0, .int .i64 0, .int .i64 0] 30)) := ((Below.refl _ _).alloc (Nat.le_refl _) _).alloc (by simp) _
  have HR := Lib.hid ((hr.below hkw).more hkw.size)
  have HX := Lib.hid hx
  clear hr hx hcell hkw
  have H0 := Lib.hid h0
  clear h0
  go_enter Try.func23, Try.ntmps23
  go_wp2_with (go_at_call 42; refine (psize_5 _ n c zs _ 5 HR.out hn h1 H0.out (by omega)).mono ?_; rintro e w' ⟨rfl, rfl⟩)
  exact bodyPost_ret (v := .tuple #[.agg #[.int .i64 5, .int .i64 0, .int .i64 0, .int .u16 0, .int .u16 0, .int .u16 0, .slice none 0 0, .slice none 0 0, .int .i64 0, .int .i64 0, .int .i64 0, .int .i64 0], .bool false]) (by simp [results, Try.results23, go_sem]) rfl ⟨rfl, ((Below.refl _ _).alloc (Nat.le_refl _) _).alloc (by simp) _⟩

set_option maxRecDepth 100000 in
set_option maxHeartbeats 600000 in
theorem pfields_len_6 (A : Option Addr) (n c : Nat) (zs : List Int) (w : World) (hr : Row .u8 w w.heap.size A n zs) (hx : Bytes8 zs) (hn : n ≤ 1000) (h1 : 1 ≤ n) (h0 : zs.getD 0 0 = 6) (hl : n ≠ 5) :
    Calls Try.prog 23 #[.slice A n c] w fun e w' => e = .returned (.tuple #[.agg #[.int .i64 6, .int .i64 0, .int .i64 0, .int .u16 0, .int .u16 0, .int .u16 0, .slice none 0 0, .slice none 0 0, .int .i64 0, .int .i64 0, .int .i64 0, .int .i64 0], .bool false]) ∧ Below w.heap.size w w' := by
  have hl' : ¬ (n : Int) = 5 := by omega
  obtain ⟨b, off, rfl, hb, hcell⟩ := hr.2 (by omega)
  have hc0 : (w.alloc (.cells #[.int .i64 0, .int .i64 0, .int .i64 0, .int .u16 0, .int .u16 0, .int .u16 0, .slice none 0 0, .slice none 0 0, .int .i64 0, .int .i64 0, .int .i64 0, .int .i64 0] 30)).cell? ⟨b, off, none⟩ = some (.int .u8 6) := by
    rw [World.cell?_alloc_lt w _ ⟨b, off, none⟩ hb]
    have := hcell 0 (by omega)
    rw [Nat.add_zero, h0] at this
    exact this
  have hn0 : (0 : Int) < (n : Int) := by omega
  have hkw : Below w.heap.size w ((w.alloc (.cells #[.int .i64 0, .int .i64 0, .int .i64 0, .int .u16 0, .int .u16 0, .int .u16 0, .slice none 0 0, .slice none 0 0, .int .i64 0, .int .i64 0, .int .i64 0, .int .i64 0] 30)).alloc (.cells #[.int .i64 6, .int .i64 0, .int .i64 0, .int .u16 0, .int .u16 0, .int .u16 0, .slice none 0 0, .slice none 0 0, .int .i64 0, .int .i64 0, .int .i64 0, .int .i64 0] 30)) := ((Below.refl _ _).alloc (Nat.le_refl _) _).alloc (by simp) _
  have HR := Lib.hid ((hr.below hkw).more hkw.size)
  have HX := Lib.hid hx
  clear hr hx hcell hkw
  have H0 := Lib.hid h0
  clear h0
  go_enter Try.func23, Try.ntmps23
  go_wp2_with (go_at_call 42; refine (psize_5 _ n c zs _ 6 HR.out hn h1 H0.out (by omega)).mono ?_; rintro e w' ⟨rfl, rfl⟩)
  exact bodyPost_ret (v := .tuple #[.agg #[.int .i64 6, .int .i64 0, .int .i64 0, .int .u16 0, .int .u16 0, .int .u16 0, .slice none 0 0, .slice none 0 0, .int .i64 0, .int .i64 0, .int .i64 0, .int .i64 0], .bool false]) (by simp [results, Try.results23, go_sem]) rfl ⟨rfl, ((Below.refl _ _).alloc (Nat.le_refl _) _).alloc (by simp) _⟩

set_option maxRecDepth 100000 in
set_option maxHeartbeats 600000 in
theorem pfields_len_22 (A : Option Addr) (n c : Nat) (zs : List Int) (w : World) (hr : Row .u8 w w.heap.size A n zs) (hx : Bytes8 zs) (hn : n ≤ 1000) (h1 : 1 ≤ n) (h0 : zs.getD 0 0 = 22) (hl : n ≠ 7) :
    Calls Try.prog 23 #[.slice A n c] w fun e w' => e = .returned (.tuple #[.agg #[.int .i64 22, .int .i64 0, .int .i64 0, .int .u16 0, .int .u16 0, .int .u16 0, .slice none 0 0, .slice none 0 0, .int .i64 0, .int .i64 0, .int .i64 0, .int .i64 0], .bool false]) ∧ Below w.heap.size w w' := by
  have hl' : ¬ (n : Int) = 7 := by omega
  obtain ⟨b, off, rfl, hb, hcell⟩ := hr.2 (by omega)
  have hc0 : (w.alloc (.cells #[.int .i64 0, .int .i64 0, .int .i64 0, .int .u16 0, .int .u16 0, .int .u16 0, .slice none 0 0, .slice none 0 0, .int .i64 0, .int .i64 0, .int .i64 0, .int .i64 0] 30)).cell? ⟨b, off, none⟩ = some (.int .u8 22) := by
    rw [World.cell?_alloc_lt w _ ⟨b, off, none⟩ hb]
    have := hcell 0 (by omega)
    rw [Nat.add_zero, h0] at this
    exact this
  have hn0 : (0 : Int) < (n : Int) := by omega
  have hkw : Below w.heap.size w ((w.alloc (.cells #[.int .i64 0, .int .i64 0, .int .i64 0, .int .u16 0, .int .u16 0, .int .u16 0, .slice none 0 0, .slice none 0 0, .int .i64 0, .int .i64 0, .int .i64 0, .int .i64 0] 30)).alloc (.cells #[.int .i64 22, .int .i64 0, .int .i64 0, .int .u16 0, .int .u16 0, .int .u16 0, .slice none 0 0, .slice none 0 0, .int .i64 0, .int .i64 0, .int .i64 0, .int .i64 0] 30)) := ((Below.refl _ _).alloc (Nat.le_refl _) _).alloc (by simp) _
  have HR := Lib.hid ((hr.below hkw).more hkw.size)
  have HX := Lib.hid hx
  clear hr hx hcell hkw
  have H0 := Lib.hid h0
  clear h0
  go_enter Try.func23, Try.ntmps23
  go_wp2_with (go_at_call 42; refine (psize_22 _ n c zs _ HR.out hn h1 H0.out).mono ?_; rintro e w' ⟨rfl, rfl⟩)
  exact bodyPost_ret (v := .tuple #[.agg #[.int .i64 22, .int .i64 0, .int .i64 0, .int .u16 0, .int .u16 0, .int .u16 0, .slice none 0 0, .slice none 0 0, .int .i64 0, .int .i64 0, .int .i64 0, .int .i64 0], .bool false]) (by simp [results, Try.results23, go_sem]) rfl ⟨rfl, ((Below.refl _ _).alloc (Nat.le_refl _) _).alloc (by simp) _⟩

set_option maxRecDepth 100000 in
set_option maxHeartbeats 600000 in
theorem pfields_len_43 (A : Option Addr) (n c : Nat) (zs : List Int) (w : World) (hr : Row .u8 w w.heap.size A n zs) (hx : Bytes8 zs) (hn : n ≤ 1000) (h1 : 1 ≤ n) (h0 : zs.getD 0 0 = 43) (hl : n ≠ 4) :
    Calls Try.prog 23 #[.slice A n c] w fun e w' => e = .returned (.tuple #[.agg #[.int .i64 43, .int .i64 0, .int .i64 0, .int .u16 0, .int .u16 0, .int .u16 0, .slice none 0 0, .slice none 0 0, .int .i64 0, .int .i64 0, .int .i64 0, .int .i64 0], .bool false]) ∧ Below w.heap.size w w' := by
  have hl' : ¬ (n : Int) = 4 := by omega
  obtain ⟨b, off, rfl, hb, hcell⟩ := hr.2 (by omega)
  have hc0 : (w.alloc (.cells #[.int .i64 0, .int .i64 0, .int .i64 0, .int .u16 0, .int .u16 0, .int .u16 0, .slice none 0 0, .slice none 0 0, .int .i64 0, .int .i64 0, .int .i64 0, .int .i64 0] 30)).cell? ⟨b, off, none⟩ = some (.int .u8 43) := by
    rw [World.cell?_alloc_lt w _ ⟨b, off, none⟩ hb]
    have := hcell 0 (by omega)
    rw [Nat.add_zero, h0] at this
    exact this
  have hn0 : (0 : Int) < (n : Int) := by omega
  have hkw : Below w.heap.size w ((w.alloc (.cells #[.int .i64 0, .int .i64 0, .int .i64 0, .int .u16 0, .int .u16 0, .int .u16 0, .slice none 0 0, .slice none 0 0, .int .i64 0, .int .i64 0, .int .i64 0, .int .i64 0] 30)).alloc (.cells #[.int .i64 43, .int .i64 0, .int .i64 0, .int .u16 0, .int .u16 0, .int .u16 0, .slice none 0 0, .slice none 0 0, .int .i64 0, .int .i64 0, .int .i64 0, .int .i64 0] 30)) := ((Below.refl _ _).alloc (Nat.le_refl _) _).alloc (by simp) _
  have HR := Lib.hid ((hr.below hkw).more hkw.size)
  have HX := Lib.hid hx
  clear hr hx hcell hkw
  have H0 := Lib.hid h0
  clear h0
  go_enter Try.func23, Try.ntmps23
  go_wp2_with (go_at_call 42; refine (psize_43 _ n c zs _ HR.out hn h1 H0.out).mono ?_; rintro e w' ⟨rfl, rfl⟩)
  exact bodyPost_ret (v := .tuple #[.agg #[.int .i64 43, .int .i64 0, .int .i64 0, .int .u16 0, .int .u16 0, .int .u16 0, .slice none 0 0, .slice none 0 0, .int .i64 0, .int .i64 0, .int .i64 0, .int .i64 0], .bool false]) (by simp [results, Try.results23, go_sem]) rfl ⟨rfl, ((Below.refl _ _).alloc (Nat.le_refl _) _).alloc (by simp) _⟩

set_option maxRecDepth 100000 in
set_option maxHeartbeats 600000 in
theorem pfields_yes_1 (A : Option Addr) (n c : Nat) (zs : List Int) (w : World) (hr : Row .u8 w w.heap.size A n zs) (hx : Bytes8 zs) (hn : n ≤ 1000) (h1 : 1 ≤ n) (p q : Int) (h0 : zs.getD 0 0 = 1) (hl : n = 5) (hp : gotW zs n 1 = p) (hq : gotW zs n 3 = q) :
    Calls Try.prog 23 #[.slice A n c] w fun e w' => e = .returned (.tuple #[.agg #[.int .i64 1, .int .i64 p, .int .i64 q, .int .u16 0, .int .u16 0, .int .u16 0, .slice none 0 0, .slice none 0 0, .int .i64 0, .int .i64 0, .int .i64 0, .int .i64 0], .bool true]) ∧ Below w.heap.size w w' := by
  obtain ⟨lop, hip⟩ := gotW_bounds hx n 1
  rw [hp] at lop hip
  obtain ⟨loq, hiq⟩ := gotW_bounds hx n 3
  rw [hq] at loq hiq
  subst hl
  obtain ⟨b, off, rfl, hb, hcell⟩ := hr.2 (by omega)
  have hc0 : (w.alloc (.cells #[.int .i64 0, .int .i64 0, .int .i64 0, .int .u16 0, .int .u16 0, .int .u16 0, .slice none 0 0, .slice none 0 0, .int .i64 0, .int .i64 0, .int .i64 0, .int .i64 0] 30)).cell? ⟨b, off, none⟩ = some (.int .u8 1) := by
    rw [World.cell?_alloc_lt w _ ⟨b, off, none⟩ hb]
    have := hcell 0 (by omega)
    rw [Nat.add_zero, h0] at this
    exact this
  have hkw : Below w.heap.size w ((w.alloc (.cells #[.int .i64 0, .int .i64 0, .int .i64 0, .int .u16 0, .int .u16 0, .int .u16 0, .slice none 0 0, .slice none 0 0, .int .i64 0, .int .i64 0, .int .i64 0, .int .i64 0] 30)).alloc (.cells #[.int .i64 1, .int .i64 0, .int .i64 0, .int .u16 0, .int .u16 0, .int .u16 0, .slice none 0 0, .slice none 0 0, .int .i64 0, .int .i64 0, .int .i64 0, .int .i64 0] 30)) := ((Below.refl _ _).alloc (Nat.le_refl _) _).alloc (by simp) _
  have HR := Lib.hid ((hr.below hkw).more hkw.size)
  have HX := Lib.hid hx
  have HKW := Lib.hid hkw
  have HG4 : Hid (WholeV ((w.alloc (.cells #[.int .i64 0, .int .i64 0, .int .i64 0, .int .u16 0, .int .u16 0, .int .u16 0, .slice none 0 0, .slice none 0 0, .int .i64 0, .int .i64 0, .int .i64 0, .int .i64 0] 30)).alloc (.cells #[.int .i64 1, .int .i64 0, .int .i64 0, .int .u16 0, .int .u16 0, .int .u16 0, .slice none 0 0, .slice none 0 0, .int .i64 0, .int .i64 0, .int .i64 0, .int .i64 0] 30)) (w.heap.size + 1) 30 [.int .i64 1, .int .i64 0, .int .i64 0, .int .u16 0, .int .u16 0, .int .u16 0, .slice none 0 0, .slice none 0 0, .int .i64 0, .int .i64 0, .int .i64 0, .int .i64 0]) := by
    have h := heap_alloc_new (w.alloc (.cells #[.int .i64 0, .int .i64 0, .int .i64 0, .int .u16 0, .int .u16 0, .int .u16 0, .slice none 0 0, .slice none 0 0, .int .i64 0, .int .i64 0, .int .i64 0, .int .i64 0] 30)) (.cells #[.int .i64 1, .int .i64 0, .int .i64 0, .int .u16 0, .int .u16 0, .int .u16 0, .slice none 0 0, .slice none 0 0, .int .i64 0, .int .i64 0, .int .i64 0, .int .i64 0] 30)
    rwa [show (w.alloc (.cells #[.int .i64 0, .int .i64 0, .int .i64 0, .int .u16 0, .int .u16 0, .int .u16 0, .slice none 0 0, .slice none 0 0, .int .i64 0, .int .i64 0, .int .i64 0, .int .i64 0] 30)).heap.size = w.heap.size + 1 by simp] at h
  have HG2 : Hid (WholeV ((w.alloc (.cells #[.int .i64 0, .int .i64 0, .int .i64 0, .int .u16 0, .int .u16 0, .int .u16 0, .slice none 0 0, .slice none 0 0, .int .i64 0, .int .i64 0, .int .i64 0, .int .i64 0] 30)).alloc (.cells #[.int .i64 1, .int .i64 0, .int .i64 0, .int .u16 0, .int .u16 0, .int .u16 0, .slice none 0 0, .slice none 0 0, .int .i64 0, .int .i64 0, .int .i64 0, .int .i64 0] 30)) w.heap.size 30 [.int .i64 0, .int .i64 0, .int .i64 0, .int .u16 0, .int .u16 0, .int .u16 0, .slice none 0 0, .slice none 0 0, .int .i64 0, .int .i64 0, .int .i64 0, .int .i64 0]) := by
    have h : WholeV (w.alloc (.cells #[.int .i64 0, .int .i64 0, .int .i64 0, .int .u16 0, .int .u16 0, .int .u16 0, .slice none 0 0, .slice none 0 0, .int .i64 0, .int .i64 0, .int .i64 0, .int .i64 0] 30)) w.heap.size 30 [.int .i64 0, .int .i64 0, .int .i64 0, .int .u16 0, .int .u16 0, .int .u16 0, .slice none 0 0, .slice none 0 0, .int .i64 0, .int .i64 0, .int .i64 0, .int .i64 0] := heap_alloc_new w _
    exact h.below ((Below.refl _ _).alloc (Nat.le_refl _) _) (by simp)
  clear hr hx hcell hkw
  have H0 := Lib.hid h0
  clear h0
  have Hp := Lib.hid hp
  have Hq := Lib.hid hq
  clear hp hq
  go_enter Try.func23, Try.ntmps23
  go_wp2_with (first
    | (go_at_call 42; refine (psize_5 _ 5 c zs _ 1 HR.out hn h1 H0.out (by omega)).mono ?_; rintro e w' ⟨rfl, rfl⟩)
    | (go_at_call 43; refine (pair_other _ _ (by omega)).mono ?_; rintro e w' ⟨rfl, rfl⟩)
    | (go_at_call 44; (with_reducible refine (pnumber_any (some ⟨b, off, none⟩) 5 c zs 1 p _ Hp.out (HR.out.drewN _) HX.out (by omega)).mono ?_); rintro e w' ⟨rfl, d1, rfl⟩)
    | (go_at_call 44; (with_reducible refine (pnumber_any (some ⟨b, off, none⟩) 5 c zs 1 p _ Hp.out HR.out HX.out (by omega)).mono ?_); rintro e w' ⟨rfl, d1, rfl⟩)
    | (go_at_call 44; (with_reducible refine (pnumber_any (some ⟨b, off, none⟩) 5 c zs 3 q _ Hq.out (HR.out.drewN _) HX.out (by omega)).mono ?_); rintro e w' ⟨rfl, d3, rfl⟩)
    | (go_at_call 44; (with_reducible refine (pnumber_any (some ⟨b, off, none⟩) 5 c zs 3 q _ Hq.out HR.out HX.out (by omega)).mono ?_); rintro e w' ⟨rfl, d3, rfl⟩))
  obtain ⟨X, hX⟩ : ∃ X, (((((w.alloc (.cells #[.int .i64 0, .int .i64 0, .int .i64 0, .int .u16 0, .int .u16 0, .int .u16 0, .slice none 0 0, .slice none 0 0, .int .i64 0, .int .i64 0, .int .i64 0, .int .i64 0] 30)).alloc (.cells #[.int .i64 1, .int .i64 0, .int .i64 0, .int .u16 0, .int .u16 0, .int .u16 0, .slice none 0 0, .slice none 0 0, .int .i64 0, .int .i64 0, .int .i64 0, .int .i64 0] 30)).drewN (d1 + d3)).setCell ⟨w.heap.size + 1, 1, none⟩ (.int .i64 p)).setCell ⟨w.heap.size + 1, 2, none⟩ (.int .i64 q)) = X := ⟨_, rfl⟩
  have hxa : Below (w.heap.size + 1) ((w.alloc (.cells #[.int .i64 0, .int .i64 0, .int .i64 0, .int .u16 0, .int .u16 0, .int .u16 0, .slice none 0 0, .slice none 0 0, .int .i64 0, .int .i64 0, .int .i64 0, .int .i64 0] 30)).alloc (.cells #[.int .i64 1, .int .i64 0, .int .i64 0, .int .u16 0, .int .u16 0, .int .u16 0, .slice none 0 0, .slice none 0 0, .int .i64 0, .int .i64 0, .int .i64 0, .int .i64 0] 30)) X := by rw [← hX]; exact (((below_drewN (Below.refl (w.heap.size + 1) _) (d1 + d3)).setCell (p := ⟨w.heap.size + 1, 1, none⟩) (Nat.le_refl _) (.int .i64 p)).setCell (p := ⟨w.heap.size + 1, 2, none⟩) (Nat.le_refl _) (.int .i64 q))
  have hx0 : WholeV X w.heap.size 30 [.int .i64 0, .int .i64 0, .int .i64 0, .int .u16 0, .int .u16 0, .int .u16 0, .slice none 0 0, .slice none 0 0, .int .i64 0, .int .i64 0, .int .i64 0, .int .i64 0] := HG2.out.below hxa (Nat.lt_succ_self _)
  have hxb : Below w.heap.size w X := HKW.out.trans (hxa.mono (Nat.le_succ _))
  rw [hX]
  obtain ⟨w9, hw9⟩ : ∃ w9, ((((((((((((X.setCell ⟨w.heap.size, 0, none⟩ (.int .i64 1)).setCell ⟨w.heap.size, 1, none⟩ (.int .i64 p)).setCell ⟨w.heap.size, 2, none⟩ (.int .i64 q)).setCell ⟨w.heap.size, 3, none⟩ (.int .u16 0)).setCell ⟨w.heap.size, 4, none⟩ (.int .u16 0)).setCell ⟨w.heap.size, 5, none⟩ (.int .u16 0)).setCell ⟨w.heap.size, 6, none⟩ (.slice none 0 0)).setCell ⟨w.heap.size, 7, none⟩ (.slice none 0 0)).setCell ⟨w.heap.size, 8, none⟩ (.int .i64 0)).setCell ⟨w.heap.size, 9, none⟩ (.int .i64 0)).setCell ⟨w.heap.size, 10, none⟩ (.int .i64 0)).setCell ⟨w.heap.size, 11, none⟩ (.int .i64 0)) = w9 := ⟨_, rfl⟩
  have hwh := all12 hx0 (.int .i64 1) (.int .i64 p) (.int .i64 q) (.int .u16 0) (.int .u16 0) (.int .u16 0) (.slice none 0 0) (.slice none 0 0) (.int .i64 0) (.int .i64 0) (.int .i64 0) (.int .i64 0) rfl
  have hbb := bel12 hxb (.int .i64 1) (.int .i64 p) (.int .i64 q) (.int .u16 0) (.int .u16 0) (.int .u16 0) (.slice none 0 0) (.slice none 0 0) (.int .i64 0) (.int .i64 0) (.int .i64 0) (.int .i64 0)
  rw [hw9] at hwh hbb
  rw [hw9]
  obtain ⟨he0, he1, he2, he3, he4, he5, he6, he7, he8, he9, he10, he11⟩ := cells12 hwh
  exact bodyPost_ret (v := .tuple #[.agg #[.int .i64 1, .int .i64 p, .int .i64 q, .int .u16 0, .int .u16 0, .int .u16 0, .slice none 0 0, .slice none 0 0, .int .i64 0, .int .i64 0, .int .i64 0, .int .i64 0], .bool true]) (by simp [results, Try.results23, go_sem, he0, he1, he2, he3, he4, he5, he6, he7, he8, he9, he10, he11]) rfl ⟨rfl, hbb⟩

set_option maxRecDepth 100000 in
set_option maxHeartbeats 600000 in
theorem pfields_yes_2 (A : Option Addr) (n c : Nat) (zs : List Int) (w : World) (hr : Row .u8 w w.heap.size A n zs) (hx : Bytes8 zs) (hn : n ≤ 1000) (h1 : 1 ≤ n) (p q : Int) (h0 : zs.getD 0 0 = 2) (hl : n = 5) (hp : gotW zs n 1 = p) (hq : gotW zs n 3 = q) :
    Calls Try.prog 23 #[.slice A n c] w fun e w' => e = .returned (.tuple #[.agg #[.int .i64 2, .int .i64 p, .int .i64 q, .int .u16 0, .int .u16 0, .int .u16 0, .slice none 0 0, .slice none 0 0, .int .i64 0, .int .i64 0, .int .i64 0, .int .i64 0], .bool true]) ∧ Below w.heap.size w w' := by
  obtain ⟨lop, hip⟩ := gotW_bounds hx n 1
  rw [hp] at lop hip
  obtain ⟨loq, hiq⟩ := gotW_bounds hx n 3
  rw [hq] at loq hiq
  subst hl
  obtain ⟨b, off, rfl, hb, hcell⟩ := hr.2 (by omega)
  have hc0 : (w.alloc (.cells #[.int .i64 0, .int .i64 0, .int .i64 0, .int .u16 0, .int .u16 0, .int .u16 0, .slice none 0 0, .slice none 0 0, .int .i64 0, .int .i64 0, .int .i64 0, .int .i64 0] 30)).cell? ⟨b, off, none⟩ = some (.int .u8 2) := by
    rw [World.cell?_alloc_lt w _ ⟨b, off, none⟩ hb]
    have := hcell 0 (by omega)
    rw [Nat.add_zero, h0] at this
    exact this
  have hkw : Below w.heap.size w ((w.alloc (.cells #[.int .i64 0, .int .i64 0, .int .i64 0, .int .u16 0, .int .u16 0, .int .u16 0, .slice none 0 0, .slice none 0 0, .int .i64 0, .int .i64 0, .int .i64 0, .int .i64 0] 30)).alloc (.cells #[.int .i64 2, .int .i64 0, .int .i64 0, .int .u16 0, .int .u16 0, .int .u16 0, .slice none 0 0, .slice none 0 0, .int .i64 0, .int .i64 0, .int .i64 0, .int .i64 0] 30)) := ((Below.refl _ _).alloc (Nat.le_refl _) _).alloc (by simp) _
  have HR := Lib.hid ((hr.below hkw).more hkw.size)
  have HX := Lib.hid hx
  have HKW := Lib.hid hkw
  have HG4 : Hid (WholeV ((w.alloc (.cells #[.int .i64 0, .int .i64 0, .int .i64 0, .int .u16 0, .int .u16 0, .int .u16 0, .slice none 0 0, .slice none 0 0, .int .i64 0, .int .i64 0, .int .i64 0, .int .i64 0] 30)).alloc (.cells #[.int .i64 2, .int .i64 0, .int .i64 0, .int .u16 0, .int .u16 0, .int .u16 0, .slice none 0 0, .slice none 0 0, .int .i64 0, .int .i64 0, .int .i64 0, .int .i64 0] 30)) (w.heap.size + 1) 30 [.int .i64 2, .int .i64 0, .int .i64 0, .int .u16 0, .int .u16 0, .int .u16 0, .slice none 0 0, .slice none 0 0, .int .i64 0, .int .i64 0, .int .i64 0, .int .i64 0]) := by
    have h := heap_alloc_new (w.alloc (.cells #[.int .i64 0, .int .i64 0, .int .i64 0, .int .u16 0, .int .u16 0, .int .u16 0, .slice none 0 0, .slice none 0 0, .int .i64 0, .int .i64 0, .int .i64 0, .int .i64 0] 30)) (.cells #[.int .i64 2, .int .i64 0, .int .i64 0, .int .u16 0, .int .u16 0, .int .u16 0, .slice none 0 0, .slice none 0 0, .int .i64 0, .int .i64 0, .int .i64 0, .int .i64 0] 30)
    rwa [show (w.alloc (.cells #[.int .i64 0, .int .i64 0, .int .i64 0, .int .u16 0, .int .u16 0, .int .u16 0, .slice none 0 0, .slice none 0 0, .int .i64 0, .int .i64 0, .int .i64 0, .int .i64 0] 30)).heap.size = w.heap.size + 1 by simp] at h
  have HG2 : Hid (WholeV ((w.alloc (.cells #[.int .i64 0, .int .i64 0, .int .i64 0, .int .u16 0, .int .u16 0, .int .u16 0, .slice none 0 0, .slice none 0 0, .int .i64 0, .int .i64 0, .int .i64 0, .int .i64 0] 30)).alloc (.cells #[.int .i64 2, .int .i64 0, .int .i64 0, .int .u16 0, .int .u16 0, .int .u16 0, .slice none 0 0, .slice none 0 0, .int .i64 0, .int .i64 0, .int .i64 0, .int .i64 0] 30)) w.heap.size 30 [.int .i64 0, .int .i64 0, .int .i64 0, .int .u16 0, .int .u16 0, .int .u16 0, .slice none 0 0, .slice none 0 0, .int .i64 0, .int .i64 0, .int .i64 0, .int .i64 0]) := by
    have h : WholeV (w.alloc (.cells #[.int .i64 0, .int .i64 0, .int .i64 0, .int .u16 0, .int .u16 0, .int .u16 0, .slice none 0 0, .slice none 0 0, .int .i64 0, .int .i64 0, .int .i64 0, .int .i64 0] 30)) w.heap.size 30 [.int .i64 0, .int .i64 0, .int .i64 0, .int .u16 0, .int .u16 0, .int .u16 0, .slice none 0 0, .slice none 0 0, .int .i64 0, .int .i64 0, .int .i64 0, .int .i64 0] := heap_alloc_new w _
    exact h.below ((Below.refl _ _).alloc (Nat.le_refl _) _) (by simp)
  clear hr hx hcell hkw
  have H0 := Lib.hid h0
  clear h0
  have Hp := Lib.hid hp
  have Hq := Lib.hid hq
  clear hp hq
  go_enter Try.func23, Try.ntmps23
  go_wp2_with (first
    | (go_at_call 42; refine (psize_5 _ 5 c zs _ 2 HR.out hn h1 H0.out (by omega)).mono ?_; rintro e w' ⟨rfl, rfl⟩)
    | (go_at_call 43; refine (pair_other _ _ (by omega)).mono ?_; rintro e w' ⟨rfl, rfl⟩)
    | (go_at_call 44; (with_reducible refine (pnumber_any (some ⟨b, off, none⟩) 5 c zs 1 p _ Hp.out (HR.out.drewN _) HX.out (by omega)).mono ?_); rintro e w' ⟨rfl, d1, rfl⟩)
    | (go_at_call 44; (with_reducible refine (pnumber_any (some ⟨b, off, none⟩) 5 c zs 1 p _ Hp.out HR.out HX.out (by omega)).mono ?_); rintro e w' ⟨rfl, d1, rfl⟩)
    | (go_at_call 44; (with_reducible refine (pnumber_any (some ⟨b, off, none⟩) 5 c zs 3 q _ Hq.out (HR.out.drewN _) HX.out (by omega)).mono ?_); rintro e w' ⟨rfl, d3, rfl⟩)
    | (go_at_call 44; (with_reducible refine (pnumber_any (some ⟨b, off, none⟩) 5 c zs 3 q _ Hq.out HR.out HX.out (by omega)).mono ?_); rintro e w' ⟨rfl, d3, rfl⟩))
  obtain ⟨X, hX⟩ : ∃ X, (((((w.alloc (.cells #[.int .i64 0, .int .i64 0, .int .i64 0, .int .u16 0, .int .u16 0, .int .u16 0, .slice none 0 0, .slice none 0 0, .int .i64 0, .int .i64 0, .int .i64 0, .int .i64 0] 30)).alloc (.cells #[.int .i64 2, .int .i64 0, .int .i64 0, .int .u16 0, .int .u16 0, .int .u16 0, .slice none 0 0, .slice none 0 0, .int .i64 0, .int .i64 0, .int .i64 0, .int .i64 0] 30)).drewN (d1 + d3)).setCell ⟨w.heap.size + 1, 1, none⟩ (.int .i64 p)).setCell ⟨w.heap.size + 1, 2, none⟩ (.int .i64 q)) = X := ⟨_, rfl⟩
  have hxa : Below (w.heap.size + 1) ((w.alloc (.cells #[.int .i64 0, .int .i64 0, .int .i64 0, .int .u16 0, .int .u16 0, .int .u16 0, .slice none 0 0, .slice none 0 0, .int .i64 0, .int .i64 0, .int .i64 0, .int .i64 0] 30)).alloc (.cells #[.int .i64 2, .int .i64 0, .int .i64 0, .int .u16 0, .int .u16 0, .int .u16 0, .slice none 0 0, .slice none 0 0, .int .i64 0, .int .i64 0, .int .i64 0, .int .i64 0] 30)) X := by rw [← hX]; exact (((below_drewN (Below.refl (w.heap.size + 1) _) (d1 + d3)).setCell (p := ⟨w.heap.size + 1, 1, none⟩) (Nat.le_refl _) (.int .i64 p)).setCell (p := ⟨w.heap.size + 1, 2, none⟩) (Nat.le_refl _) (.int .i64 q))
  have hx0 : WholeV X w.heap.size 30 [.int .i64 0, .int .i64 0, .int .i64 0, .int .u16 0, .int .u16 0, .int .u16 0, .slice none 0 0, .slice none 0 0, .int .i64 0, .int .i64 0, .int .i64 0, .int .i64 0] := HG2.out.below hxa (Nat.lt_succ_self _)
  have hxb : Below w.heap.size w X := HKW.out.trans (hxa.mono (Nat.le_succ _))
  rw [hX]
  obtain ⟨w9, hw9⟩ : ∃ w9, ((((((((((((X.setCell ⟨w.heap.size, 0, none⟩ (.int .i64 2)).setCell ⟨w.heap.size, 1, none⟩ (.int .i64 p)).setCell ⟨w.heap.size, 2, none⟩ (.int .i64 q)).setCell ⟨w.heap.size, 3, none⟩ (.int .u16 0)).setCell ⟨w.heap.size, 4, none⟩ (.int .u16 0)).setCell ⟨w.heap.size, 5, none⟩ (.int .u16 0)).setCell ⟨w.heap.size, 6, none⟩ (.slice none 0 0)).setCell ⟨w.heap.size, 7, none⟩ (.slice none 0 0)).setCell ⟨w.heap.size, 8, none⟩ (.int .i64 0)).setCell ⟨w.heap.size, 9, none⟩ (.int .i64 0)).setCell ⟨w.heap.size, 10, none⟩ (.int .i64 0)).setCell ⟨w.heap.size, 11, none⟩ (.int .i64 0)) = w9 := ⟨_, rfl⟩
  have hwh := all12 hx0 (.int .i64 2) (.int .i64 p) (.int .i64 q) (.int .u16 0) (.int .u16 0) (.int .u16 0) (.slice none 0 0) (.slice none 0 0) (.int .i64 0) (.int .i64 0) (.int .i64 0) (.int .i64 0) rfl
  have hbb := bel12 hxb (.int .i64 2) (.int .i64 p) (.int .i64 q) (.int .u16 0) (.int .u16 0) (.int .u16 0) (.slice none 0 0) (.slice none 0 0) (.int .i64 0) (.int .i64 0) (.int .i64 0) (.int .i64 0)
  rw [hw9] at hwh hbb
  rw [hw9]
  obtain ⟨he0, he1, he2, he3, he4, he5, he6, he7, he8, he9, he10, he11⟩ := cells12 hwh
  exact bodyPost_ret (v := .tuple #[.agg #[.int .i64 2, .int .i64 p, .int .i64 q, .int .u16 0, .int .u16 0, .int .u16 0, .slice none 0 0, .slice none 0 0, .int .i64 0, .int .i64 0, .int .i64 0, .int .i64 0], .bool true]) (by simp [results, Try.results23, go_sem, he0, he1, he2, he3, he4, he5, he6, he7, he8, he9, he10, he11]) rfl ⟨rfl, hbb⟩

set_option maxRecDepth 100000 in
set_option maxHeartbeats 600000 in
theorem pfields_yes_3 (A : Option Addr) (n c : Nat) (zs : List Int) (w : World) (hr : Row .u8 w w.heap.size A n zs) (hx : Bytes8 zs) (hn : n ≤ 1000) (h1 : 1 ≤ n) (p q : Int) (h0 : zs.getD 0 0 = 3) (hl : n = 5) (hp : gotW zs n 1 = p) (hq : gotW zs n 3 = q) :
    Calls Try.prog 23 #[.slice A n c] w fun e w' => e = .returned (.tuple #[.agg #[.int .i64 3, .int .i64 p, .int .i64 q, .int .u16 0, .int .u16 0, .int .u16 0, .slice none 0 0, .slice none 0 0, .int .i64 0, .int .i64 0, .int .i64 0, .int .i64 0], .bool true]) ∧ Below w.heap.size w w' := by
  obtain ⟨lop, hip⟩ := gotW_bounds hx n 1
  rw [hp] at lop hip
  obtain ⟨loq, hiq⟩ := gotW_bounds hx n 3
  rw [hq] at loq hiq
  subst hl
  obtain ⟨b, off, rfl, hb, hcell⟩ := hr.2 (by omega)
  have hc0 : (w.alloc (.cells #[.int .i64 0, .int .i64 0, .int .i64 0, .int .u16 0, .int .u16 0, .int .u16 0, .slice none 0 0, .slice none 0 0, .int .i64 0, .int .i64 0, .int .i64 0, .int .i64 0] 30)).cell? ⟨b, off, none⟩ = some (.int .u8 3) := by
    rw [World.cell?_alloc_lt w _ ⟨b, off, none⟩ hb]
    have := hcell 0 (by omega)
    rw [Nat.add_zero, h0] at this
    exact this
  have hkw : Below w.heap.size w ((w.alloc (.cells #[.int .i64 0, .int .i64 0, .int .i64 0, .int .u16 0, .int .u16 0, .int .u16 0, .slice none 0 0, .slice none 0 0, .int .i64 0, .int .i64 0, .int .i64 0, .int .i64 0] 30)).alloc (.cells #[.int .i64 3, .int .i64 0, .int .i64 0, .int .u16 0, .int .u16 0, .int .u16 0, .slice none 0 0, .slice none 0 0, .int .i64 0, .int .i64 0, .int .i64 0, .int .i64 0] 30)) := ((Below.refl _ _).alloc (Nat.le_refl _) _).alloc (by simp) _
  have HR := Lib.hid ((hr.below hkw).more hkw.size)
  have HX := Lib.hid hx
  have HKW := Lib.hid hkw
  have HG4 : Hid (WholeV ((w.alloc (.cells #[.int .i64 0, .int .i64 0, .int .i64 0, .int .u16 0, .int .u16 0, .int .u16 0, .slice none 0 0, .slice none 0 0, .int .i64 0, .int .i64 0, .int .i64 0, .int .i64 0] 30)).alloc (.cells #[.int .i64 3, .int .i64 0, .int .i64 0, .int .u16 0, .int .u16 0, .int .u16 0, .slice none 0 0, .slice none 0 0, .int .i64 0, .int .i64 0, .int .i64 0, .int .i64 0] 30)) (w.heap.size + 1) 30 [.int .i64 3, .int .i64 0, .int .i64 0, .int .u16 0, .int .u16 0, .int .u16 0, .slice none 0 0, .slice none 0 0, .int .i64 0, .int .i64 0, .int .i64 0, .int .i64 0]) := by
    have h := heap_alloc_new (w.alloc (.cells #[.int .i64 0, .int .i64 0, .int .i64 0, .int .u16 0, .int .u16 0, .int .u16 0, .slice none 0 0, .slice none 0 0, .int .i64 0, .int .i64 0, .int .i64 0, .int .i64 0] 30)) (.cells #[.int .i64 3, .int .i64 0, .int .i64 0, .int .u16 0, .int .u16 0, .int .u16 0, .slice none 0 0, .slice none 0 0, .int .i64 0, .int .i64 0, .int .i64 0, .int .i64 0] 30)
    rwa [show (w.alloc (.cells #[.int .i64 0, .int .i64 0, .int .i64 0, .int .u16 0, .int .u16 0, .int .u16 0, .slice none 0 0, .slice none 0 0, .int .i64 0, .int .i64 0, .int .i64 0, .int .i64 0] 30)).heap.size = w.heap.size + 1 by simp] at h
  have HG2 : Hid (WholeV ((w.alloc (.cells #[.int .i64 0, .int .i64 0, .int .i64 0, .int .u16 0, .int .u16 0, .int .u16 0, .slice none 0 0, .slice none 0 0, .int .i64 0, .int .i64 0, .int .i64 0, .int .i64 0] 30)).alloc (.cells #[.int .i64 3, .int .i64 0, .int .i64 0, .int .u16 0, .int .u16 0, .int .u16 0, .slice none 0 0, .slice none 0 0, .int .i64 0, .int .i64 0, .int .i64 0, .int .i64 0] 30)) w.heap.size 30 [.int .i64 0, .int .i64 0, .int .i64 0, .int .u16 0, .int .u16 0, .int .u16 0, .slice none 0 0, .slice none 0 0, .int .i64 0, .int .i64 0, .int .i64 0, .int .i64 0]) := by
    have h : WholeV (w.alloc (.cells #[.int .i64 0, .int .i64 0, .int .i64 0, .int .u16 0, .int .u16 0, .int .u16 0, .slice none 0 0, .slice none 0 0, .int .i64 0, .int .i64 0, .int .i64 0, .int .i64 0] 30)) w.heap.size 30 [.int .i64 0, .int .i64 0, .int .i64 0, .int .u16 0, .int .u16 0, .int .u16 0, .slice none 0 0, .slice none 0 0, .int .i64 0, .int .i64 0, .int .i64 0, .int .i64 0] := heap_alloc_new w _
    exact h.below ((Below.refl _ _).alloc (Nat.le_refl _) _) (by simp)
  clear hr hx hcell hkw
  have H0 := Lib.hid h0
  clear h0
  have Hp := Lib.hid hp
  have Hq := Lib.hid hq
  clear hp hq
  go_enter Try.func23, Try.ntmps23
  go_wp2_with (first
    | (go_at_call 42; refine (psize_5 _ 5 c zs _ 3 HR.out hn h1 H0.out (by omega)).mono ?_; rintro e w' ⟨rfl, rfl⟩)
    | (go_at_call 43; refine (pair_other _ _ (by omega)).mono ?_; rintro e w' ⟨rfl, rfl⟩)
    | (go_at_call 44; (with_reducible refine (pnumber_any (some ⟨b, off, none⟩) 5 c zs 1 p _ Hp.out (HR.out.drewN _) HX.out (by omega)).mono ?_); rintro e w' ⟨rfl, d1, rfl⟩)
    | (go_at_call 44; (with_reducible refine (pnumber_any (some ⟨b, off, none⟩) 5 c zs 1 p _ Hp.out HR.out HX.out (by omega)).mono ?_); rintro e w' ⟨rfl, d1, rfl⟩)
    | (go_at_call 44; (with_reducible refine (pnumber_any (some ⟨b, off, none⟩) 5 c zs 3 q _ Hq.out (HR.out.drewN _) HX.out (by omega)).mono ?_); rintro e w' ⟨rfl, d3, rfl⟩)
    | (go_at_call 44; (with_reducible refine (pnumber_any (some ⟨b, off, none⟩) 5 c zs 3 q _ Hq.out HR.out HX.out (by omega)).mono ?_); rintro e w' ⟨rfl, d3, rfl⟩))
  obtain ⟨X, hX⟩ : ∃ X, (((((w.alloc (.cells #[.int .i64 0, .int .i64 0, .int .i64 0, .int .u16 0, .int .u16 0, .int .u16 0, .slice none 0 0, .slice none 0 0, .int .i64 0, .int .i64 0, .int .i64 0, .int .i64 0] 30)).alloc (.cells #[.int .i64 3, .int .i64 0, .int .i64 0, .int .u16 0, .int .u16 0, .int .u16 0, .slice none 0 0, .slice none 0 0, .int .i64 0, .int .i64 0, .int .i64 0, .int .i64 0] 30)).drewN (d1 + d3)).setCell ⟨w.heap.size + 1, 1, none⟩ (.int .i64 p)).setCell ⟨w.heap.size + 1, 2, none⟩ (.int .i64 q)) = X := ⟨_, rfl⟩
  have hxa : Below (w.heap.size + 1) ((w.alloc (.cells #[.int .i64 0, .int .i64 0, .int .i64 0, .int .u16 0, .int .u16 0, .int .u16 0, .slice none 0 0, .slice none 0 0, .int .i64 0, .int .i64 0, .int .i64 0, .int .i64 0] 30)).alloc (.cells #[.int .i64 3, .int .i64 0, .int .i64 0, .int .u16 0, .int .u16 0, .int .u16 0, .slice none 0 0, .slice none 0 0, .int .i64 0, .int .i64 0, .int .i64 0, .int .i64 0] 30)) X := by rw [← hX]; exact (((below_drewN (Below.refl (w.heap.size + 1) _) (d1 + d3)).setCell (p := ⟨w.heap.size + 1, 1, none⟩) (Nat.le_refl _) (.int .i64 p)).setCell (p := ⟨w.heap.size + 1, 2, none⟩) (Nat.le_refl _) (.int .i64 q))
  have hx0 : WholeV X w.heap.size 30 [.int .i64 0, .int .i64 0, .int .i64 0, .int .u16 0, .int .u16 0, .int .u16 0, .slice none 0 0, .slice none 0 0, .int .i64 0, .int .i64 0, .int .i64 0, .int .i64 0] := HG2.out.below hxa (Nat.lt_succ_self _)
  have hxb : Below w.heap.size w X := HKW.out.trans (hxa.mono (Nat.le_succ _))
  rw [hX]
  obtain ⟨w9, hw9⟩ : ∃ w9, ((((((((((((X.setCell ⟨w.heap.size, 0, none⟩ (.int .i64 3)).setCell ⟨w.heap.size, 1, none⟩ (.int .i64 p)).setCell ⟨w.heap.size, 2, none⟩ (.int .i64 q)).setCell ⟨w.heap.size, 3, none⟩ (.int .u16 0)).setCell ⟨w.heap.size, 4, none⟩ (.int .u16 0)).setCell ⟨w.heap.size, 5, none⟩ (.int .u16 0)).setCell ⟨w.heap.size, 6, none⟩ (.slice none 0 0)).setCell ⟨w.heap.size, 7, none⟩ (.slice none 0 0)).setCell ⟨w.heap.size, 8, none⟩ (.int .i64 0)).setCell ⟨w.heap.size, 9, none⟩ (.int .i64 0)).setCell ⟨w.heap.size, 10, none⟩ (.int .i64 0)).setCell ⟨w.heap.size, 11, none⟩ (.int .i64 0)) = w9 := ⟨_, rfl⟩
  have hwh := all12 hx0 (.int .i64 3) (.int .i64 p) (.int .i64 q) (.int .u16 0) (.int .u16 0) (.int .u16 0) (.slice none 0 0) (.slice none 0 0) (.int .i64 0) (.int .i64 0) (.int .i64 0) (.int .i64 0) rfl
  have hbb := bel12 hxb (.int .i64 3) (.int .i64 p) (.int .i64 q) (.int .u16 0) (.int .u16 0) (.int .u16 0) (.slice none 0 0) (.slice none 0 0) (.int .i64 0) (.int .i64 0) (.int .i64 0) (.int .i64 0)
  rw [hw9] at hwh hbb
  rw [hw9]
  obtain ⟨he0, he1, he2, he3, he4, he5, he6, he7, he8, he9, he10, he11⟩ := cells12 hwh
  exact bodyPost_ret (v := .tuple #[.agg #[.int .i64 3, .int .i64 p, .int .i64 q, .int .u16 0, .int .u16 0, .int .u16 0, .slice none 0 0, .slice none 0 0, .int .i64 0, .int .i64 0, .int .i64 0, .int .i64 0], .bool true]) (by simp [results, Try.results23, go_sem, he0, he1, he2, he3, he4, he5, he6, he7, he8, he9, he10, he11]) rfl ⟨rfl, hbb⟩

set_option maxRecDepth 100000 in
set_option maxHeartbeats 600000 in
theorem pfields_yes_4 (A : Option Addr) (n c : Nat) (zs : List Int) (w : World) (hr : Row .u8 w w.heap.size A n zs) (hx : Bytes8 zs) (hn : n ≤ 1000) (h1 : 1 ≤ n) (p q : Int) (h0 : zs.getD 0 0 = 4) (hl : n = 5) (hp : gotW zs n 1 = p) (hq : gotW zs n 3 = q) :
    Calls Try.prog 23 #[.slice A n c] w fun e w' => e = .returned (.tuple #[.agg #[.int .i64 4, .int .i64 p, .int .i64 q, .int .u16 0, .int .u16 0, .int .u16 0, .slice none 0 0, .slice none 0 0, .int .i64 0, .int .i64 0, .int .i64 0, .int .i64 0], .bool true]) ∧ Below w.heap.size w w' := by
  obtain ⟨lop, hip⟩ := gotW_bounds hx n 1
  rw [hp] at lop hip
  obtain ⟨loq, hiq⟩ := gotW_bounds hx n 3
  rw [hq] at loq hiq
  subst hl
  obtain ⟨b, off, rfl, hb, hcell⟩ := hr.2 (by omega)
  have hc0 : (w.alloc (.cells #[.int .i64 0, .int .i64 0, .int .i64 0, .int .u16 0, .int .u16 0, .int .u16 0, .slice none 0 0, .slice none 0 0, .int .i64 0, .int .i64 0, .int .i64 0, .int .i64 0] 30)).cell? ⟨b, off, none⟩ = some (.int .u8 4) := by
    rw [World.cell?_alloc_lt w _ ⟨b, off, none⟩ hb]
    have := hcell 0 (by omega)
    rw [Nat.add_zero, h0] at this
    exact this
  have hkw : Below w.heap.size w ((w.alloc (.cells #[.int .i64 0, .int .i64 0, .int .i64 0, .int .u16 0, .int .u16 0, .int .u16 0, .slice none 0 0, .slice none 0 0, .int .i64 0, .int .i64 0, .int .i64 0, .int .i64 0] 30)).alloc (.cells #[.int .i64 4, .int .i64 0, .int .i64 0, .int .u16 0, .int .u16 0, .int .u16 0, .slice none 0 0, .slice none 0 0, .int .i64 0, .int .i64 0, .int .i64 0, .int .i64 0] 30)) := ((Below.refl _ _).alloc (Nat.le_refl _) _).alloc (by simp) _
  have HR := Lib.hid ((hr.below hkw).more hkw.size)
  have HX := Lib.hid hx
  have HKW := Lib.hid hkw
  have HG4 : Hid (WholeV ((w.alloc (.cells #[.int .i64 0, .int .i64 0, .int .i64 0, .int .u16 0, .int .u16 0, .int .u16 0, .slice none 0 0, .slice none 0 0, .int .i64 0, .int .i64 0, .int .i64 0, .int .i64 0] 30)).alloc (.cells #[.int .i64 4, .int .i64 0, .int .i64 0, .int .u16 0, .int .u16 0, .int .u16 0, .slice none 0 0, .slice none 0 0, .int .i64 0, .int .i64 0, .int .i64 0, .int .i64 0] 30)) (w.heap.size + 1) 30 [.int .i64 4, .int .i64 0, .int .i64 0, .int .u16 0, .int .u16 0, .int .u16 0, .slice none 0 0, .slice none 0 0, .int .i64 0, .int .i64 0, .int .i64 0, .int .i64 0]) := by
    have h := heap_alloc_new (w.alloc (.cells #[.int .i64 0, .int .i64 0, .int .i64 0, .int .u16 0, .int .u16 0, .int .u16 0, .slice none 0 0, .slice none 0 0, .int .i64 0, .int .i64 0, .int .i64 0, .int .i64 0] 30)) (.cells #[.int .i64 4, .int .i64 0, .int .i64 0, .int .u16 0, .int .u16 0, .int .u16 0, .slice none 0 0, .slice none 0 0, .int .i64 0, .int .i64 0, .int .i64 0, .int .i64 0] 30)
    rwa [show (w.alloc (.cells #[.int .i64 0, .int .i64 0, .int .i64 0, .int .u16 0, .int .u16 0, .int .u16 0, .slice none 0 0, .slice none 0 0, .int .i64 0, .int .i64 0, .int .i64 0, .int .i64 0] 30)).heap.size = w.heap.size + 1 by simp] at h
  have HG2 : Hid (WholeV ((w.alloc (.cells #[.int .i64 0, .int .i64 0, .int .i64 0, .int .u16 0, .int .u16 0, .int .u16 0, .slice none 0 0, .slice none 0 0, .int .i64 0, .int .i64 0, .int .i64 0, .int .i64 0] 30)).alloc (.cells #[.int .i64 4, .int .i64 0, .int .i64 0, .int .u16 0, .int .u16 0, .int .u16 0, .slice none 0 0, .slice none 0 0, .int .i64 0, .int .i64 0, .int .i64 0, .int .i64 0] 30)) w.heap.size 30 [.int .i64 0, .int .i64 0, .int .i64 0, .int .u16 0, .int .u16 0, .int .u16 0, .slice none 0 0, .slice none 0 0, .int .i64 0, .int .i64 0, .int .i64 0, .int .i64 0]) := by
    have h : WholeV (w.alloc (.cells #[.int .i64 0, .int .i64 0, .int .i64 0, .int .u16 0, .int .u16 0, .int .u16 0, .slice none 0 0, .slice none 0 0, .int .i64 0, .int .i64 0, .int .i64 0, .int .i64 0] 30)) w.heap.size 30 [.int .i64 0, .int .i64 0, .int .i64 0, .int .u16 0, .int .u16 0, .int .u16 0, .slice none 0 0, .slice none 0 0, .int .i64 0, .int .i64 0, .int .i64 0, .int .i64 0] := heap_alloc_new w _
    exact h.below ((Below.refl _ _).alloc (Nat.le_refl _) _) (by simp)
  clear hr hx hcell hkw
  have H0 := Lib.hid h0
  clear h0
  have Hp := Lib.hid hp
  have Hq := Lib.hid hq
  clear hp hq
  go_enter Try.func23, Try.ntmps23
  go_wp2_with (first
    | (go_at_call 42; refine (psize_5 _ 5 c zs _ 4 HR.out hn h1 H0.out (by omega)).mono ?_; rintro e w' ⟨rfl, rfl⟩)
    | (go_at_call 43; refine (pair_other _ _ (by omega)).mono ?_; rintro e w' ⟨rfl, rfl⟩)
    | (go_at_call 44; (with_reducible refine (pnumber_any (some ⟨b, off, none⟩) 5 c zs 1 p _ Hp.out (HR.out.drewN _) HX.out (by omega)).mono ?_); rintro e w' ⟨rfl, d1, rfl⟩)
    | (go_at_call 44; (with_reducible refine (pnumber_any (some ⟨b, off, none⟩) 5 c zs 1 p _ Hp.out HR.out HX.out (by omega)).mono ?_); rintro e w' ⟨rfl, d1, rfl⟩)
    | (go_at_call 44; (with_reducible refine (pnumber_any (some ⟨b, off, none⟩) 5 c zs 3 q _ Hq.out (HR.out.drewN _) HX.out (by omega)).mono ?_); rintro e w' ⟨rfl, d3, rfl⟩)
    | (go_at_call 44; (with_reducible refine (pnumber_any (some ⟨b, off, none⟩) 5 c zs 3 q _ Hq.out HR.out HX.out (by omega)).mono ?_); rintro e w' ⟨rfl, d3, rfl⟩))
  obtain ⟨X, hX⟩ : ∃ X, (((((w.alloc (.cells #[.int .i64 0, .int .i64 0, .int .i64 0, .int .u16 0, .int .u16 0, .int .u16 0, .slice none 0 0, .slice none 0 0, .int .i64 0, .int .i64 0, .int .i64 0, .int .i64 0] 30)).alloc (.cells #[.int .i64 4, .int .i64 0, .int .i64 0, .int .u16 0, .int .u16 0, .int .u16 0, .slice none 0 0, .slice none 0 0, .int .i64 0, .int .i64 0, .int .i64 0, .int .i64 0] 30)).drewN (d1 + d3)).setCell ⟨w.heap.size + 1, 1, none⟩ (.int .i64 p)).setCell ⟨w.heap.size + 1, 2, none⟩ (.int .i64 q)) = X := ⟨_, rfl⟩
  have hxa : Below (w.heap.size + 1) ((w.alloc (.cells #[.int .i64 0, .int .i64 0, .int .i64 0, .int .u16 0, .int .u16 0, .int .u16 0, .slice none 0 0, .slice none 0 0, .int .i64 0, .int .i64 0, .int .i64 0, .int .i64 0] 30)).alloc (.cells #[.int .i64 4, .int .i64 0, .int .i64 0, .int .u16 0, .int .u16 0, .int .u16 0, .slice none 0 0, .slice none 0 0, .int .i64 0, .int .i64 0, .int .i64 0, .int .i64 0] 30)) X := by rw [← hX]; exact (((below_drewN (Below.refl (w.heap.size + 1) _) (d1 + d3)).setCell (p := ⟨w.heap.size + 1, 1, none⟩) (Nat.le_refl _) (.int .i64 p)).setCell (p := ⟨w.heap.size + 1, 2, none⟩) (Nat.le_refl _) (.int .i64 q))
  have hx0 : WholeV X w.heap.size 30 [.int .i64 0, .int .i64 0, .int .i64 0, .int .u16 0, .int .u16 0, .int .u16 0, .slice none 0 0, .slice none 0 0, .int .i64 0, .int .i64 0, .int .i64 0, .int .i64 0] := HG2.out.below hxa (Nat.lt_succ_self _)
  have hxb : Below w.heap.size w X := HKW.out.trans (hxa.mono (Nat.le_succ _))
  rw [hX]
  obtain ⟨w9, hw9⟩ : ∃ w9, ((((((((((((X.setCell ⟨w.heap.size, 0, none⟩ (.int .i64 4)).setCell ⟨w.heap.size, 1, none⟩ (.int .i64 p)).setCell ⟨w.heap.size, 2, none⟩ (.int .i64 q)).setCell ⟨w.heap.size, 3, none⟩ (.int .u16 0)).setCell ⟨w.heap.size, 4, none⟩ (.int .u16 0)).setCell ⟨w.heap.size, 5, none⟩ (.int .u16 0)).setCell ⟨w.heap.size, 6, none⟩ (.slice none 0 0)).setCell ⟨w.heap.size, 7, none⟩ (.slice none 0 0)).setCell ⟨w.heap.size, 8, none⟩ (.int .i64 0)).setCell ⟨w.heap.size, 9, none⟩ (.int .i64 0)).setCell ⟨w.heap.size, 10, none⟩ (.int .i64 0)).setCell ⟨w.heap.size, 11, none⟩ (.int .i64 0)) = w9 := ⟨_, rfl⟩
  have hwh := all12 hx0 (.int .i64 4) (.int .i64 p) (.int .i64 q) (.int .u16 0) (.int .u16 0) (.int .u16 0) (.slice none 0 0) (.slice none 0 0) (.int .i64 0) (.int .i64 0) (.int .i64 0) (.int .i64 0) rfl
  have hbb := bel12 hxb (.int .i64 4) (.int .i64 p) (.int .i64 q) (.int .u16 0) (.int .u16 0) (.int .u16 0) (.slice none 0 0) (.slice none 0 0) (.int .i64 0) (.int .i64 0) (.int .i64 0) (.int .i64 0)
  rw [hw9] at hwh hbb
  rw [hw9]
  obtain ⟨he0, he1, he2, he3, he4, he5, he6, he7, he8, he9, he10, he11⟩ := cells12 hwh
  exact bodyPost_ret (v := .tuple #[.agg #[.int .i64 4, .int .i64 p, .int .i64 q, .int .u16 0, .int .u16 0, .int .u16 0, .slice none 0 0, .slice none 0 0, .int .i64 0, .int .i64 0, .int .i64 0, .int .i64 0], .bool true]) (by simp [results, Try.results23, go_sem, he0, he1, he2, he3, he4, he5, he6, he7, he8, he9, he10, he11]) rfl ⟨rfl, hbb⟩

set_option maxRecDepth 100000 in
set_option maxHeartbeats 600000 in
theorem pfields_yes_6 (A : Option Addr) (n c : Nat) (zs : List Int) (w : World) (hr : Row .u8 w w.heap.size A n zs) (hx : Bytes8 zs) (hn : n ≤ 1000) (h1 : 1 ≤ n) (p q : Int) (h0 : zs.getD 0 0 = 6) (hl : n = 5) (hp : gotW zs n 1 = p) (hq : gotW zs n 3 = q) :
    Calls Try.prog 23 #[.slice A n c] w fun e w' => e = .returned (.tuple #[.agg #[.int .i64 6, .int .i64 p, .int .i64 0, .int .u16 q, .int .u16 0, .int .u16 0, .slice none 0 0, .slice none 0 0, .int .i64 0, .int .i64 0, .int .i64 0, .int .i64 0], .bool true]) ∧ Below w.heap.size w w' := by
  obtain ⟨lop, hip⟩ := gotW_bounds hx n 1
  rw [hp] at lop hip
  obtain ⟨loq, hiq⟩ := gotW_bounds hx n 3
  rw [hq] at loq hiq
  have wq : IntKind.u16.wrap q = q := IntWalk.u16_in _ (by omega)
  subst hl
  obtain ⟨b, off, rfl, hb, hcell⟩ := hr.2 (by omega)
  have hc0 : (w.alloc (.cells #[.int .i64 0, .int .i64 0, .int .i64 0, .int .u16 0, .int .u16 0, .int .u16 0, .slice none 0 0, .slice none 0 0, .int .i64 0, .int .i64 0, .int .i64 0, .int .i64 0] 30)).cell? ⟨b, off, none⟩ = some (.int .u8 6) := by
    rw [World.cell?_alloc_lt w _ ⟨b, off, none⟩ hb]
    have := hcell 0 (by omega)
    rw [Nat.add_zero, h0] at this
    exact this
  have hkw : Below w.heap.size w ((w.alloc (.cells #[.int .i64 0, .int .i64 0, .int .i64 0, .int .u16 0, .int .u16 0, .int .u16 0, .slice none 0 0, .slice none 0 0, .int .i64 0, .int .i64 0, .int .i64 0, .int .i64 0] 30)).alloc (.cells #[.int .i64 6, .int .i64 0, .int .i64 0, .int .u16 0, .int .u16 0, .int .u16 0, .slice none 0 0, .slice none 0 0, .int .i64 0, .int .i64 0, .int .i64 0, .int .i64 0] 30)) := ((Below.refl _ _).alloc (Nat.le_refl _) _).alloc (by simp) _
  have HR := Lib.hid ((hr.below hkw).more hkw.size)
  have HX := Lib.hid hx
  have HKW := Lib.hid hkw
  have HG4 : Hid (WholeV ((w.alloc (.cells #[.int .i64 0, .int .i64 0, .int .i64 0, .int .u16 0, .int .u16 0, .int .u16 0, .slice none 0 0, .slice none 0 0, .int .i64 0, .int .i64 0, .int .i64 0, .int .i64 0] 30)).alloc (.cells #[.int .i64 6, .int .i64 0, .int .i64 0, .int .u16 0, .int .u16 0, .int .u16 0, .slice none 0 0, .slice none 0 0, .int .i64 0, .int .i64 0, .int .i64 0, .int .i64 0] 30)) (w.heap.size + 1) 30 [.int .i64 6, .int .i64 0, .int .i64 0, .int .u16 0, .int .u16 0, .int .u16 0, .slice none 0 0, .slice none 0 0, .int .i64 0, .int .i64 0, .int .i64 0, .int .i64 0]) := by
    have h := heap_alloc_new (w.alloc (.cells #[.int .i64 0, .int .i64 0, .int .i64 0, .int .u16 0, .int .u16 0, .int .u16 0, .slice none 0 0, .slice none 0 0, .int .i64 0, .int .i64 0, .int .i64 0, .int .i64 0] 30)) (.cells #[.int .i64 6, .int .i64 0, .int .i64 0, .int .u16 0, .int .u16 0, .int .u16 0, .slice none 0 0, .slice none 0 0, .int .i64 0, .int .i64 0, .int .i64 0, .int .i64 0] 30)
    rwa [show (w.alloc (.cells #[.int .i64 0, .int .i64 0, .int .i64 0, .int .u16 0, .int .u16 0, .int .u16 0, .slice none 0 0, .slice none 0 0, .int .i64 0, .int .i64 0, .int .i64 0, .int .i64 0] 30)).heap.size = w.heap.size + 1 by simp] at h
  have HG2 : Hid (WholeV ((w.alloc (.cells #[.int .i64 0, .int .i64 0, .int .i64 0, .int .u16 0, .int .u16 0, .int .u16 0, .slice none 0 0, .slice none 0 0, .int .i64 0, .int .i64 0, .int .i64 0, .int .i64 0] 30)).alloc (.cells #[.int .i64 6, .int .i64 0, .int .i64 0, .int .u16 0, .int .u16 0, .int .u16 0, .slice none 0 0, .slice none 0 0, .int .i64 0, .int .i64 0, .int .i64 0, .int .i64 0] 30)) w.heap.size 30 [.int .i64 0, .int .i64 0, .int .i64 0, .int .u16 0, .int .u16 0, .int .u16 0, .slice none 0 0, .slice none 0 0, .int .i64 0, .int .i64 0, .int .i64 0, .int .i64 0]) := by
    have h : WholeV (w.alloc (.cells #[.int .i64 0, .int .i64 0, .int .i64 0, .int .u16 0, .int .u16 0, .int .u16 0, .slice none 0 0, .slice none 0 0, .int .i64 0, .int .i64 0, .int .i64 0, .int .i64 0] 30)) w.heap.size 30 [.int .i64 0, .int .i64 0, .int .i64 0, .int .u16 0, .int .u16 0, .int .u16 0, .slice none 0 0, .slice none 0 0, .int .i64 0, .int .i64 0, .int .i64 0, .int .i64 0] := heap_alloc_new w _
    exact h.below ((Below.refl _ _).alloc (Nat.le_refl _) _) (by simp)
  clear hr hx hcell hkw
  have H0 := Lib.hid h0
  clear h0
  have Hp := Lib.hid hp
  have Hq := Lib.hid hq
  clear hp hq
  go_enter Try.func23, Try.ntmps23
  go_wp2_with (first
    | (go_at_call 42; refine (psize_5 _ 5 c zs _ 6 HR.out hn h1 H0.out (by omega)).mono ?_; rintro e w' ⟨rfl, rfl⟩)
    | (go_at_call 43; refine (pair_other _ _ (by omega)).mono ?_; rintro e w' ⟨rfl, rfl⟩)
    | (go_at_call 44; (with_reducible refine (pnumber_any (some ⟨b, off, none⟩) 5 c zs 1 p _ Hp.out (HR.out.drewN _) HX.out (by omega)).mono ?_); rintro e w' ⟨rfl, d1, rfl⟩)
    | (go_at_call 44; (with_reducible refine (pnumber_any (some ⟨b, off, none⟩) 5 c zs 1 p _ Hp.out HR.out HX.out (by omega)).mono ?_); rintro e w' ⟨rfl, d1, rfl⟩)
    | (go_at_call 44; (with_reducible refine (pnumber_any (some ⟨b, off, none⟩) 5 c zs 3 q _ Hq.out (HR.out.drewN _) HX.out (by omega)).mono ?_); rintro e w' ⟨rfl, d3, rfl⟩)
    | (go_at_call 44; (with_reducible refine (pnumber_any (some ⟨b, off, none⟩) 5 c zs 3 q _ Hq.out HR.out HX.out (by omega)).mono ?_); rintro e w' ⟨rfl, d3, rfl⟩))
  obtain ⟨X, hX⟩ : ∃ X, (((((w.alloc (.cells #[.int .i64 0, .int .i64 0, .int .i64 0, .int .u16 0, .int .u16 0, .int .u16 0, .slice none 0 0, .slice none 0 0, .int .i64 0, .int .i64 0, .int .i64 0, .int .i64 0] 30)).alloc (.cells #[.int .i64 6, .int .i64 0, .int .i64 0, .int .u16 0, .int .u16 0, .int .u16 0, .slice none 0 0, .slice none 0 0, .int .i64 0, .int .i64 0, .int .i64 0, .int .i64 0] 30)).drewN (d1 + d3)).setCell ⟨w.heap.size + 1, 1, none⟩ (.int .i64 p)).setCell ⟨w.heap.size + 1, 3, none⟩ (.int .u16 q)) = X := ⟨_, rfl⟩
  have hxa : Below (w.heap.size + 1) ((w.alloc (.cells #[.int .i64 0, .int .i64 0, .int .i64 0, .int .u16 0, .int .u16 0, .int .u16 0, .slice none 0 0, .slice none 0 0, .int .i64 0, .int .i64 0, .int .i64 0, .int .i64 0] 30)).alloc (.cells #[.int .i64 6, .int .i64 0, .int .i64 0, .int .u16 0, .int .u16 0, .int .u16 0, .slice none 0 0, .slice none 0 0, .int .i64 0, .int .i64 0, .int .i64 0, .int .i64 0] 30)) X := by rw [← hX]; exact (((below_drewN (Below.refl (w.heap.size + 1) _) (d1 + d3)).setCell (p := ⟨w.heap.size + 1, 1, none⟩) (Nat.le_refl _) (.int .i64 p)).setCell (p := ⟨w.heap.size + 1, 3, none⟩) (Nat.le_refl _) (.int .u16 q))
  have hx0 : WholeV X w.heap.size 30 [.int .i64 0, .int .i64 0, .int .i64 0, .int .u16 0, .int .u16 0, .int .u16 0, .slice none 0 0, .slice none 0 0, .int .i64 0, .int .i64 0, .int .i64 0, .int .i64 0] := HG2.out.below hxa (Nat.lt_succ_self _)
  have hxb : Below w.heap.size w X := HKW.out.trans (hxa.mono (Nat.le_succ _))
  rw [hX]
  obtain ⟨w9, hw9⟩ : ∃ w9, ((((((((((((X.setCell ⟨w.heap.size, 0, none⟩ (.int .i64 6)).setCell ⟨w.heap.size, 1, none⟩ (.int .i64 p)).setCell ⟨w.heap.size, 2, none⟩ (.int .i64 0)).setCell ⟨w.heap.size, 3, none⟩ (.int .u16 q)).setCell ⟨w.heap.size, 4, none⟩ (.int .u16 0)).setCell ⟨w.heap.size, 5, none⟩ (.int .u16 0)).setCell ⟨w.heap.size, 6, none⟩ (.slice none 0 0)).setCell ⟨w.heap.size, 7, none⟩ (.slice none 0 0)).setCell ⟨w.heap.size, 8, none⟩ (.int .i64 0)).setCell ⟨w.heap.size, 9, none⟩ (.int .i64 0)).setCell ⟨w.heap.size, 10, none⟩ (.int .i64 0)).setCell ⟨w.heap.size, 11, none⟩ (.int .i64 0)) = w9 := ⟨_, rfl⟩
  have hwh := all12 hx0 (.int .i64 6) (.int .i64 p) (.int .i64 0) (.int .u16 q) (.int .u16 0) (.int .u16 0) (.slice none 0 0) (.slice none 0 0) (.int .i64 0) (.int .i64 0) (.int .i64 0) (.int .i64 0) rfl
  have hbb := bel12 hxb (.int .i64 6) (.int .i64 p) (.int .i64 0) (.int .u16 q) (.int .u16 0) (.int .u16 0) (.slice none 0 0) (.slice none 0 0) (.int .i64 0) (.int .i64 0) (.int .i64 0) (.int .i64 0)
  rw [hw9] at hwh hbb
  rw [hw9]
  obtain ⟨he0, he1, he2, he3, he4, he5, he6, he7, he8, he9, he10, he11⟩ := cells12 hwh
  exact bodyPost_ret (v := .tuple #[.agg #[.int .i64 6, .int .i64 p, .int .i64 0, .int .u16 q, .int .u16 0, .int .u16 0, .slice none 0 0, .slice none 0 0, .int .i64 0, .int .i64 0, .int .i64 0, .int .i64 0], .bool true]) (by simp [results, Try.results23, go_sem, he0, he1, he2, he3, he4, he5, he6, he7, he8, he9, he10, he11]) rfl ⟨rfl, hbb⟩

set_option maxRecDepth 100000 in
set_option maxHeartbeats 600000 in
theorem pfields_yes_22 (A : Option Addr) (n c : Nat) (zs : List Int) (w : World) (hr : Row .u8 w w.heap.size A n zs) (hx : Bytes8 zs) (hn : n ≤ 1000) (h1 : 1 ≤ n) (p q t : Int) (h0 : zs.getD 0 0 = 22) (hl : n = 7) (hp : gotW zs n 1 = p) (hq : gotW zs n 3 = q) (ht : gotW zs n 5 = t) :
    Calls Try.prog 23 #[.slice A n c] w fun e w' => e = .returned (.tuple #[.agg #[.int .i64 22, .int .i64 p, .int .i64 0, .int .u16 0, .int .u16 q, .int .u16 t, .slice none 0 0, .slice none 0 0, .int .i64 0, .int .i64 0, .int .i64 0, .int .i64 0], .bool true]) ∧ Below w.heap.size w w' := by
  obtain ⟨lop, hip⟩ := gotW_bounds hx n 1
  rw [hp] at lop hip
  obtain ⟨loq, hiq⟩ := gotW_bounds hx n 3
  rw [hq] at loq hiq
  obtain ⟨lot, hit⟩ := gotW_bounds hx n 5
  rw [ht] at lot hit
  have wq : IntKind.u16.wrap q = q := IntWalk.u16_in _ (by omega)
  have wt : IntKind.u16.wrap t = t := IntWalk.u16_in _ (by omega)
  subst hl
  obtain ⟨b, off, rfl, hb, hcell⟩ := hr.2 (by omega)
  have hc0 : (w.alloc (.cells #[.int .i64 0, .int .i64 0, .int .i64 0, .int .u16 0, .int .u16 0, .int .u16 0, .slice none 0 0, .slice none 0 0, .int .i64 0, .int .i64 0, .int .i64 0, .int .i64 0] 30)).cell? ⟨b, off, none⟩ = some (.int .u8 22) := by
    rw [World.cell?_alloc_lt w _ ⟨b, off, none⟩ hb]
    have := hcell 0 (by omega)
    rw [Nat.add_zero, h0] at this
    exact this
  have hkw : Below w.heap.size w ((w.alloc (.cells #[.int .i64 0, .int .i64 0, .int .i64 0, .int .u16 0, .int .u16 0, .int .u16 0, .slice none 0 0, .slice none 0 0, .int .i64 0, .int .i64 0, .int .i64 0, .int .i64 0] 30)).alloc (.cells #[.int .i64 22, .int .i64 0, .int .i64 0, .int .u16 0, .int .u16 0, .int .u16 0, .slice none 0 0, .slice none 0 0, .int .i64 0, .int .i64 0, .int .i64 0, .int .i64 0] 30)) := ((Below.refl _ _).alloc (Nat.le_refl _) _).alloc (by simp) _
  have HR := Lib.hid ((hr.below hkw).more hkw.size)
  have HX := Lib.hid hx
  have HKW := Lib.hid hkw
  have HG4 : Hid (WholeV ((w.alloc (.cells #[.int .i64 0, .int .i64 0, .int .i64 0, .int .u16 0, .int .u16 0, .int .u16 0, .slice none 0 0, .slice none 0 0, .int .i64 0, .int .i64 0, .int .i64 0, .int .i64 0] 30)).alloc (.cells #[.int .i64 22, .int .i64 0, .int .i64 0, .int .u16 0, .int .u16 0, .int .u16 0, .slice none 0 0, .slice none 0 0, .int .i64 0, .int .i64 0, .int .i64 0, .int .i64 0] 30)) (w.heap.size + 1) 30 [.int .i64 22, .int .i64 0, .int .i64 0, .int .u16 0, .int .u16 0, .int .u16 0, .slice none 0 0, .slice none 0 0, .int .i64 0, .int .i64 0, .int .i64 0, .int .i64 0]) := by
    have h := heap_alloc_new (w.alloc (.cells #[.int .i64 0, .int .i64 0, .int .i64 0, .int .u16 0, .int .u16 0, .int .u16 0, .slice none 0 0, .slice none 0 0, .int .i64 0, .int .i64 0, .int .i64 0, .int .i64 0] 30)) (.cells #[.int .i64 22, .int .i64 0, .int .i64 0, .int .u16 0, .int .u16 0, .int .u16 0, .slice none 0 0, .slice none 0 0, .int .i64 0, .int .i64 0, .int .i64 0, .int .i64 0] 30)
    rwa [show (w.alloc (.cells #[.int .i64 0, .int .i64 0, .int .i64 0, .int .u16 0, .int .u16 0, .int .u16 0, .slice none 0 0, .slice none 0 0, .int .i64 0, .int .i64 0, .int .i64 0, .int .i64 0] 30)).heap.size = w.heap.size + 1 by simp] at h
  have HG2 : Hid (WholeV ((w.alloc (.cells #[.int .i64 0, .int .i64 0, .int .i64 0, .int .u16 0, .int .u16 0, .int .u16 0, .slice none 0 0, .slice none 0 0, .int .i64 0, .int .i64 0, .int .i64 0, .int .i64 0] 30)).alloc (.cells #[.int .i64 22, .int .i64 0, .int .i64 0, .int .u16 0, .int .u16 0, .int .u16 0, .slice none 0 0, .slice none 0 0, .int .i64 0, .int .i64 0, .int .i64 0, .int .i64 0] 30)) w.heap.size 30 [.int .i64 0, .int .i64 0, .int .i64 0, .int .u16 0, .int .u16 0, .int .u16 0, .slice none 0 0, .slice none 0 0, .int .i64 0, .int .i64 0, .int .i64 0, .int .i64 0]) := by
    have h : WholeV (w.alloc (.cells #[.int .i64 0, .int .i64 0, .int .i64 0, .int .u16 0, .int .u16 0, .int .u16 0, .slice none 0 0, .slice none 0 0, .int .i64 0, .int .i64 0, .int .i64 0, .int .i64 0] 30)) w.heap.size 30 [.int .i64 0, .int .i64 0, .int .i64 0, .int .u16 0, .int .u16 0, .int .u16 0, .slice none 0 0, .slice none 0 0, .int .i64 0, .int .i64 0, .int .i64 0, .int .i64 0] := heap_alloc_new w _
    exact h.below ((Below.refl _ _).alloc (Nat.le_refl _) _) (by simp)
  clear hr hx hcell hkw
  have H0 := Lib.hid h0
  clear h0
  have Hp := Lib.hid hp
  have Hq := Lib.hid hq
  have Ht := Lib.hid ht
  clear hp hq ht
  go_enter Try.func23, Try.ntmps23
  go_wp2_with (first
    | (go_at_call 42; refine (psize_22 _ 7 c zs _ HR.out hn h1 H0.out).mono ?_; rintro e w' ⟨rfl, rfl⟩)
    | (go_at_call 43; refine (pair_other _ _ (by omega)).mono ?_; rintro e w' ⟨rfl, rfl⟩)
    | (go_at_call 44; (with_reducible refine (pnumber_any (some ⟨b, off, none⟩) 7 c zs 1 p _ Hp.out (HR.out.drewN _) HX.out (by omega)).mono ?_); rintro e w' ⟨rfl, d1, rfl⟩)
    | (go_at_call 44; (with_reducible refine (pnumber_any (some ⟨b, off, none⟩) 7 c zs 1 p _ Hp.out HR.out HX.out (by omega)).mono ?_); rintro e w' ⟨rfl, d1, rfl⟩)
    | (go_at_call 44; (with_reducible refine (pnumber_any (some ⟨b, off, none⟩) 7 c zs 3 q _ Hq.out (HR.out.drewN _) HX.out (by omega)).mono ?_); rintro e w' ⟨rfl, d3, rfl⟩)
    | (go_at_call 44; (with_reducible refine (pnumber_any (some ⟨b, off, none⟩) 7 c zs 3 q _ Hq.out HR.out HX.out (by omega)).mono ?_); rintro e w' ⟨rfl, d3, rfl⟩)
    | (go_at_call 44; (with_reducible refine (pnumber_any (some ⟨b, off, none⟩) 7 c zs 5 t _ Ht.out (HR.out.drewN _) HX.out (by omega)).mono ?_); rintro e w' ⟨rfl, d5, rfl⟩)
    | (go_at_call 44; (with_reducible refine (pnumber_any (some ⟨b, off, none⟩) 7 c zs 5 t _ Ht.out HR.out HX.out (by omega)).mono ?_); rintro e w' ⟨rfl, d5, rfl⟩))
  obtain ⟨X, hX⟩ : ∃ X, ((((((w.alloc (.cells #[.int .i64 0, .int .i64 0, .int .i64 0, .int .u16 0, .int .u16 0, .int .u16 0, .slice none 0 0, .slice none 0 0, .int .i64 0, .int .i64 0, .int .i64 0, .int .i64 0] 30)).alloc (.cells #[.int .i64 22, .int .i64 0, .int .i64 0, .int .u16 0, .int .u16 0, .int .u16 0, .slice none 0 0, .slice none 0 0, .int .i64 0, .int .i64 0, .int .i64 0, .int .i64 0] 30)).drewN (d1 + d3 + d5)).setCell ⟨w.heap.size + 1, 1, none⟩ (.int .i64 p)).setCell ⟨w.heap.size + 1, 4, none⟩ (.int .u16 q)).setCell ⟨w.heap.size + 1, 5, none⟩ (.int .u16 t)) = X := ⟨_, rfl⟩
  have hxa : Below (w.heap.size + 1) ((w.alloc (.cells #[.int .i64 0, .int .i64 0, .int .i64 0, .int .u16 0, .int .u16 0, .int .u16 0, .slice none 0 0, .slice none 0 0, .int .i64 0, .int .i64 0, .int .i64 0, .int .i64 0] 30)).alloc (.cells #[.int .i64 22, .int .i64 0, .int .i64 0, .int .u16 0, .int .u16 0, .int .u16 0, .slice none 0 0, .slice none 0 0, .int .i64 0, .int .i64 0, .int .i64 0, .int .i64 0] 30)) X := by rw [← hX]; exact ((((below_drewN (Below.refl (w.heap.size + 1) _) (d1 + d3 + d5)).setCell (p := ⟨w.heap.size + 1, 1, none⟩) (Nat.le_refl _) (.int .i64 p)).setCell (p := ⟨w.heap.size + 1, 4, none⟩) (Nat.le_refl _) (.int .u16 q)).setCell (p := ⟨w.heap.size + 1, 5, none⟩) (Nat.le_refl _) (.int .u16 t))
  have hx0 : WholeV X w.heap.size 30 [.int .i64 0, .int .i64 0, .int .i64 0, .int .u16 0, .int .u16 0, .int .u16 0, .slice none 0 0, .slice none 0 0, .int .i64 0, .int .i64 0, .int .i64 0, .int .i64 0] := HG2.out.below hxa (Nat.lt_succ_self _)
  have hxb : Below w.heap.size w X := HKW.out.trans (hxa.mono (Nat.le_succ _))
  rw [hX]
  obtain ⟨w9, hw9⟩ : ∃ w9, ((((((((((((X.setCell ⟨w.heap.size, 0, none⟩ (.int .i64 22)).setCell ⟨w.heap.size, 1, none⟩ (.int .i64 p)).setCell ⟨w.heap.size, 2, none⟩ (.int .i64 0)).setCell ⟨w.heap.size, 3, none⟩ (.int .u16 0)).setCell ⟨w.heap.size, 4, none⟩ (.int .u16 q)).setCell ⟨w.heap.size, 5, none⟩ (.int .u16 t)).setCell ⟨w.heap.size, 6, none⟩ (.slice none 0 0)).setCell ⟨w.heap.size, 7, none⟩ (.slice none 0 0)).setCell ⟨w.heap.size, 8, none⟩ (.int .i64 0)).setCell ⟨w.heap.size, 9, none⟩ (.int .i64 0)).setCell ⟨w.heap.size, 10, none⟩ (.int .i64 0)).setCell ⟨w.heap.size, 11, none⟩ (.int .i64 0)) = w9 := ⟨_, rfl⟩
  have hwh := all12 hx0 (.int .i64 22) (.int .i64 p) (.int .i64 0) (.int .u16 0) (.int .u16 q) (.int .u16 t) (.slice none 0 0) (.slice none 0 0) (.int .i64 0) (.int .i64 0) (.int .i64 0) (.int .i64 0) rfl
  have hbb := bel12 hxb (.int .i64 22) (.int .i64 p) (.int .i64 0) (.int .u16 0) (.int .u16 q) (.int .u16 t) (.slice none 0 0) (.slice none 0 0) (.int .i64 0) (.int .i64 0) (.int .i64 0) (.int .i64 0)
  rw [hw9] at hwh hbb
  rw [hw9]
  obtain ⟨he0, he1, he2, he3, he4, he5, he6, he7, he8, he9, he10, he11⟩ := cells12 hwh
  exact bodyPost_ret (v := .tuple #[.agg #[.int .i64 22, .int .i64 p, .int .i64 0, .int .u16 0, .int .u16 q, .int .u16 t, .slice none 0 0, .slice none 0 0, .int .i64 0, .int .i64 0, .int .i64 0, .int .i64 0], .bool true]) (by simp [results, Try.results23, go_sem, he0, he1, he2, he3, he4, he5, he6, he7, he8, he9, he10, he11]) rfl ⟨rfl, hbb⟩

set_option maxRecDepth 100000 in
set_option maxHeartbeats 600000 in
theorem pfields_nought_5 (A : Option Addr) (n c : Nat) (zs : List Int) (w : World) (hr : Row .u8 w w.heap.size A n zs) (hx : Bytes8 zs) (hn : n ≤ 1000) (h1 : 1 ≤ n) (p q : Int) (h0 : zs.getD 0 0 = 5) (hl : n = 5) (hp : gotW zs n 1 = p) (hq : gotW zs n 3 = q) (hq0 : q = 0) :
    Calls Try.prog 23 #[.slice A n c] w fun e w' => e = .returned (.tuple #[.agg #[.int .i64 5, .int .i64 p, .int .i64 0, .int .u16 0, .int .u16 0, .int .u16 0, .slice none 0 0, .slice none 0 0, .int .i64 0, .int .i64 0, .int .i64 0, .int .i64 0], .bool true]) ∧ Below w.heap.size w w' := by
  obtain ⟨lop, hip⟩ := gotW_bounds hx n 1
  rw [hp] at lop hip
  obtain ⟨loq, hiq⟩ := gotW_bounds hx n 3
  rw [hq] at loq hiq
  subst hl
  subst hq0
  obtain ⟨b, off, rfl, hb, hcell⟩ := hr.2 (by omega)
  have hc0 : (w.alloc (.cells #[.int .i64 0, .int .i64 0, .int .i64 0, .int .u16 0, .int .u16 0, .int .u16 0, .slice none 0 0, .slice none 0 0, .int .i64 0, .int .i64 0, .int .i64 0, .int .i64 0] 30)).cell? ⟨b, off, none⟩ = some (.int .u8 5) := by
    rw [World.cell?_alloc_lt w _ ⟨b, off, none⟩ hb]
    have := hcell 0 (by omega)
    rw [Nat.add_zero, h0] at this
    exact this
  have hkw : Below w.heap.size w ((w.alloc (.cells #[.int .i64 0, .int .i64 0, .int .i64 0, .int .u16 0, .int .u16 0, .int .u16 0, .slice none 0 0, .slice none 0 0, .int .i64 0, .int .i64 0, .int .i64 0, .int .i64 0] 30)).alloc (.cells #[.int .i64 5, .int .i64 0, .int .i64 0, .int .u16 0, .int .u16 0, .int .u16 0, .slice none 0 0, .slice none 0 0, .int .i64 0, .int .i64 0, .int .i64 0, .int .i64 0] 30)) := ((Below.refl _ _).alloc (Nat.le_refl _) _).alloc (by simp) _
  have HR := Lib.hid ((hr.below hkw).more hkw.size)
  have HX := Lib.hid hx
  have HKW := Lib.hid hkw
  have HG4 : Hid (WholeV ((w.alloc (.cells #[.int .i64 0, .int .i64 0, .int .i64 0, .int .u16 0, .int .u16 0, .int .u16 0, .slice none 0 0, .slice none 0 0, .int .i64 0, .int .i64 0, .int .i64 0, .int .i64 0] 30)).alloc (.cells #[.int .i64 5, .int .i64 0, .int .i64 0, .int .u16 0, .int .u16 0, .int .u16 0, .slice none 0 0, .slice none 0 0, .int .i64 0, .int .i64 0, .int .i64 0, .int .i64 0] 30)) (w.heap.size + 1) 30 [.int .i64 5, .int .i64 0, .int .i64 0, .int .u16 0, .int .u16 0, .int .u16 0, .slice none 0 0, .slice none 0 0, .int .i64 0, .int .i64 0, .int .i64 0, .int .i64 0]) := by
    have h := heap_alloc_new (w.alloc (.cells #[.int .i64 0, .int .i64 0, .int .i64 0, .int .u16 0, .int .u16 0, .int .u16 0, .slice none 0 0, .slice none 0 0, .int .i64 0, .int .i64 0, .int .i64 0, .int .i64 0] 30)) (.cells #[.int .i64 5, .int .i64 0, .int .i64 0, .int .u16 0, .int .u16 0, .int .u16 0, .slice none 0 0, .slice none 0 0, .int .i64 0, .int .i64 0, .int .i64 0, .int .i64 0] 30)
    rwa [show (w.alloc (.cells #[.int .i64 0, .int .i64 0, .int .i64 0, .int .u16 0, .int .u16 0, .int .u16 0, .slice none 0 0, .slice none 0 0, .int .i64 0, .int .i64 0, .int .i64 0, .int .i64 0] 30)).heap.size = w.heap.size + 1 by simp] at h
  have HG2 : Hid (WholeV ((w.alloc (.cells #[.int .i64 0, .int .i64 0, .int .i64 0, .int .u16 0, .int .u16 0, .int .u16 0, .slice none 0 0, .slice none 0 0, .int .i64 0, .int .i64 0, .int .i64 0, .int .i64 0] 30)).alloc (.cells #[.int .i64 5, .int .i64 0, .int .i64 0, .int .u16 0, .int .u16 0, .int .u16 0, .slice none 0 0, .slice none 0 0, .int .i64 0, .int .i64 0, .int .i64 0, .int .i64 0] 30)) w.heap.size 30 [.int .i64 0, .int .i64 0, .int .i64 0, .int .u16 0, .int .u16 0, .int .u16 0, .slice none 0 0, .slice none 0 0, .int .i64 0, .int .i64 0, .int .i64 0, .int .i64 0]) := by
    have h : WholeV (w.alloc (.cells #[.int .i64 0, .int .i64 0, .int .i64 0, .int .u16 0, .int .u16 0, .int .u16 0, .slice none 0 0, .slice none 0 0, .int .i64 0, .int .i64 0, .int .i64 0, .int .i64 0] 30)) w.heap.size 30 [.int .i64 0, .int .i64 0, .int .i64 0, .int .u16 0, .int .u16 0, .int .u16 0, .slice none 0 0, .slice none 0 0, .int .i64 0, .int .i64 0, .int .i64 0, .int .i64 0] := heap_alloc_new w _
    exact h.below ((Below.refl _ _).alloc (Nat.le_refl _) _) (by simp)
  clear hr hx hcell hkw
  have H0 := Lib.hid h0
  clear h0
  have Hp := Lib.hid hp
  have Hq := Lib.hid hq
  clear hp hq
  go_enter Try.func23, Try.ntmps23
  go_wp2_with (first
    | (go_at_call 42; refine (psize_5 _ 5 c zs _ 5 HR.out hn h1 H0.out (by omega)).mono ?_; rintro e w' ⟨rfl, rfl⟩)
    | (go_at_call 43; refine (pair_other _ _ (by omega)).mono ?_; rintro e w' ⟨rfl, rfl⟩)
    | (go_at_call 45; refine (coil_nought _).mono ?_; rintro e w' ⟨rfl, rfl⟩)
    | (go_at_call 44; (with_reducible refine (pnumber_any (some ⟨b, off, none⟩) 5 c zs 1 p _ Hp.out (HR.out.drewN _) HX.out (by omega)).mono ?_); rintro e w' ⟨rfl, d1, rfl⟩)
    | (go_at_call 44; (with_reducible refine (pnumber_any (some ⟨b, off, none⟩) 5 c zs 1 p _ Hp.out HR.out HX.out (by omega)).mono ?_); rintro e w' ⟨rfl, d1, rfl⟩)
    | (go_at_call 44; (with_reducible refine (pnumber_any (some ⟨b, off, none⟩) 5 c zs 3 0 _ Hq.out (HR.out.drewN _) HX.out (by omega)).mono ?_); rintro e w' ⟨rfl, d3, rfl⟩)
    | (go_at_call 44; (with_reducible refine (pnumber_any (some ⟨b, off, none⟩) 5 c zs 3 0 _ Hq.out HR.out HX.out (by omega)).mono ?_); rintro e w' ⟨rfl, d3, rfl⟩))
  obtain ⟨X, hX⟩ : ∃ X, (((((w.alloc (.cells #[.int .i64 0, .int .i64 0, .int .i64 0, .int .u16 0, .int .u16 0, .int .u16 0, .slice none 0 0, .slice none 0 0, .int .i64 0, .int .i64 0, .int .i64 0, .int .i64 0] 30)).alloc (.cells #[.int .i64 5, .int .i64 0, .int .i64 0, .int .u16 0, .int .u16 0, .int .u16 0, .slice none 0 0, .slice none 0 0, .int .i64 0, .int .i64 0, .int .i64 0, .int .i64 0] 30)).drewN (d1 + d3)).setCell ⟨w.heap.size + 1, 1, none⟩ (.int .i64 p)).setCell ⟨w.heap.size + 1, 3, none⟩ (.int .u16 0)) = X := ⟨_, rfl⟩
  have hxa : Below (w.heap.size + 1) ((w.alloc (.cells #[.int .i64 0, .int .i64 0, .int .i64 0, .int .u16 0, .int .u16 0, .int .u16 0, .slice none 0 0, .slice none 0 0, .int .i64 0, .int .i64 0, .int .i64 0, .int .i64 0] 30)).alloc (.cells #[.int .i64 5, .int .i64 0, .int .i64 0, .int .u16 0, .int .u16 0, .int .u16 0, .slice none 0 0, .slice none 0 0, .int .i64 0, .int .i64 0, .int .i64 0, .int .i64 0] 30)) X := by rw [← hX]; exact (((below_drewN (Below.refl (w.heap.size + 1) _) (d1 + d3)).setCell (p := ⟨w.heap.size + 1, 1, none⟩) (Nat.le_refl _) (.int .i64 p)).setCell (p := ⟨w.heap.size + 1, 3, none⟩) (Nat.le_refl _) (.int .u16 0))
  have hx0 : WholeV X w.heap.size 30 [.int .i64 0, .int .i64 0, .int .i64 0, .int .u16 0, .int .u16 0, .int .u16 0, .slice none 0 0, .slice none 0 0, .int .i64 0, .int .i64 0, .int .i64 0, .int .i64 0] := HG2.out.below hxa (Nat.lt_succ_self _)
  have hxb : Below w.heap.size w X := HKW.out.trans (hxa.mono (Nat.le_succ _))
  rw [hX]
  obtain ⟨w9, hw9⟩ : ∃ w9, ((((((((((((X.setCell ⟨w.heap.size, 0, none⟩ (.int .i64 5)).setCell ⟨w.heap.size, 1, none⟩ (.int .i64 p)).setCell ⟨w.heap.size, 2, none⟩ (.int .i64 0)).setCell ⟨w.heap.size, 3, none⟩ (.int .u16 0)).setCell ⟨w.heap.size, 4, none⟩ (.int .u16 0)).setCell ⟨w.heap.size, 5, none⟩ (.int .u16 0)).setCell ⟨w.heap.size, 6, none⟩ (.slice none 0 0)).setCell ⟨w.heap.size, 7, none⟩ (.slice none 0 0)).setCell ⟨w.heap.size, 8, none⟩ (.int .i64 0)).setCell ⟨w.heap.size, 9, none⟩ (.int .i64 0)).setCell ⟨w.heap.size, 10, none⟩ (.int .i64 0)).setCell ⟨w.heap.size, 11, none⟩ (.int .i64 0)) = w9 := ⟨_, rfl⟩
  have hwh := all12 hx0 (.int .i64 5) (.int .i64 p) (.int .i64 0) (.int .u16 0) (.int .u16 0) (.int .u16 0) (.slice none 0 0) (.slice none 0 0) (.int .i64 0) (.int .i64 0) (.int .i64 0) (.int .i64 0) rfl
  have hbb := bel12 hxb (.int .i64 5) (.int .i64 p) (.int .i64 0) (.int .u16 0) (.int .u16 0) (.int .u16 0) (.slice none 0 0) (.slice none 0 0) (.int .i64 0) (.int .i64 0) (.int .i64 0) (.int .i64 0)
  rw [hw9] at hwh hbb
  rw [hw9]
  obtain ⟨he0, he1, he2, he3, he4, he5, he6, he7, he8, he9, he10, he11⟩ := cells12 hwh
  exact bodyPost_ret (v := .tuple #[.agg #[.int .i64 5, .int .i64 p, .int .i64 0, .int .u16 0, .int .u16 0, .int .u16 0, .slice none 0 0, .slice none 0 0, .int .i64 0, .int .i64 0, .int .i64 0, .int .i64 0], .bool true]) (by simp [results, Try.results23, go_sem, he0, he1, he2, he3, he4, he5, he6, he7, he8, he9, he10, he11]) rfl ⟨rfl, hbb⟩

set_option maxRecDepth 100000 in
set_option maxHeartbeats 600000 in
theorem pfields_one_5 (A : Option Addr) (n c : Nat) (zs : List Int) (w : World) (hr : Row .u8 w w.heap.size A n zs) (hx : Bytes8 zs) (hn : n ≤ 1000) (h1 : 1 ≤ n) (p q : Int) (h0 : zs.getD 0 0 = 5) (hl : n = 5) (hp : gotW zs n 1 = p) (hq : gotW zs n 3 = q) (hq0 : q = 65280) :
    Calls Try.prog 23 #[.slice A n c] w fun e w' => e = .returned (.tuple #[.agg #[.int .i64 5, .int .i64 p, .int .i64 0, .int .u16 1, .int .u16 0, .int .u16 0, .slice none 0 0, .slice none 0 0, .int .i64 0, .int .i64 0, .int .i64 0, .int .i64 0], .bool true]) ∧ Below w.heap.size w w' := by
  obtain ⟨lop, hip⟩ := gotW_bounds hx n 1
  rw [hp] at lop hip
  obtain ⟨loq, hiq⟩ := gotW_bounds hx n 3
  rw [hq] at loq hiq
  subst hl
  subst hq0
  obtain ⟨b, off, rfl, hb, hcell⟩ := hr.2 (by omega)
  have hc0 : (w.alloc (.cells #[.int .i64 0, .int .i64 0, .int .i64 0, .int .u16 0, .int .u16 0, .int .u16 0, .slice none 0 0, .slice none 0 0, .int .i64 0, .int .i64 0, .int .i64 0, .int .i64 0] 30)).cell? ⟨b, off, none⟩ = some (.int .u8 5) := by
    rw [World.cell?_alloc_lt w _ ⟨b, off, none⟩ hb]
    have := hcell 0 (by omega)
    rw [Nat.add_zero, h0] at this
    exact this
  have hkw : Below w.heap.size w ((w.alloc (.cells #[.int .i64 0, .int .i64 0, .int .i64 0, .int .u16 0, .int .u16 0, .int .u16 0, .slice none 0 0, .slice none 0 0, .int .i64 0, .int .i64 0, .int .i64 0, .int .i64 0] 30)).alloc (.cells #[.int .i64 5, .int .i64 0, .int .i64 0, .int .u16 0, .int .u16 0, .int .u16 0, .slice none 0 0, .slice none 0 0, .int .i64 0, .int .i64 0, .int .i64 0, .int .i64 0] 30)) := ((Below.refl _ _).alloc (Nat.le_refl _) _).alloc (by simp) _
  have HR := Lib.hid ((hr.below hkw).more hkw.size)
  have HX := Lib.hid hx
  have HKW := Lib.hid hkw
  have HG4 : Hid (WholeV ((w.alloc (.cells #[.int .i64 0, .int .i64 0, .int .i64 0, .int .u16 0, .int .u16 0, .int .u16 0, .slice none 0 0, .slice none 0 0, .int .i64 0, .int .i64 0, .int .i64 0, .int .i64 0] 30)).alloc (.cells #[.int .i64 5, .int .i64 0, .int .i64 0, .int .u16 0, .int .u16 0, .int .u16 0, .slice none 0 0, .slice none 0 0, .int .i64 0, .int .i64 0, .int .i64 0, .int .i64 0] 30)) (w.heap.size + 1) 30 [.int .i64 5, .int .i64 0, .int .i64 0, .int .u16 0, .int .u16 0, .int .u16 0, .slice none 0 0, .slice none 0 0, .int .i64 0, .int .i64 0, .int .i64 0, .int .i64 0]) := by
    have h := heap_alloc_new (w.alloc (.cells #[.int .i64 0, .int .i64 0, .int .i64 0, .int .u16 0, .int .u16 0, .int .u16 0, .slice none 0 0, .slice none 0 0, .int .i64 0, .int .i64 0, .int .i64 0, .int .i64 0] 30)) (.cells #[.int .i64 5, .int .i64 0, .int .i64 0, .int .u16 0, .int .u16 0, .int .u16 0, .slice none 0 0, .slice none 0 0, .int .i64 0, .int .i64 0, .int .i64 0, .int .i64 0] 30)
    rwa [show (w.alloc (.cells #[.int .i64 0, .int .i64 0, .int .i64 0, .int .u16 0, .int .u16 0, .int .u16 0, .slice none 0 0, .slice none 0 0, .int .i64 0, .int .i64 0, .int .i64 0, .int .i64 0] 30)).heap.size = w.heap.size + 1 by simp] at h
  have HG2 : Hid (WholeV ((w.alloc (.cells #[.int .i64 0, .int .i64 0, .int .i64 0, .int .u16 0, .int .u16 0, .int .u16 0, .slice none 0 0, .slice none 0 0, .int .i64 0, .int .i64 0, .int .i64 0, .int .i64 0] 30)).alloc (.cells #[.int .i64 5, .int .i64 0, .int .i64 0, .int .u16 0, .int .u16 0, .int .u16 0, .slice none 0 0, .slice none 0 0, .int .i64 0, .int .i64 0, .int .i64 0, .int .i64 0] 30)) w.heap.size 30 [.int .i64 0, .int .i64 0, .int .i64 0, .int .u16 0, .int .u16 0, .int .u16 0, .slice none 0 0, .slice none 0 0, .int .i64 0, .int .i64 0, .int .i64 0, .int .i64 0]) := by
    have h : WholeV (w.alloc (.cells #[.int .i64 0, .int .i64 0, .int .i64 0, .int .u16 0, .int .u16 0, .int .u16 0, .slice none 0 0, .slice none 0 0, .int .i64 0, .int .i64 0, .int .i64 0, .int .i64 0] 30)) w.heap.size 30 [.int .i64 0, .int .i64 0, .int .i64 0, .int .u16 0, .int .u16 0, .int .u16 0, .slice none 0 0, .slice none 0 0, .int .i64 0, .int .i64 0, .int .i64 0, .int .i64 0] := heap_alloc_new w _
    exact h.below ((Below.refl _ _).alloc (Nat.le_refl _) _) (by simp)
  clear hr hx hcell hkw
  have H0 := Lib.hid h0
  clear h0
  have Hp := Lib.hid hp
  have Hq := Lib.hid hq
  clear hp hq
  go_enter Try.func23, Try.ntmps23
  go_wp2_with (first
    | (go_at_call 42; refine (psize_5 _ 5 c zs _ 5 HR.out hn h1 H0.out (by omega)).mono ?_; rintro e w' ⟨rfl, rfl⟩)
    | (go_at_call 43; refine (pair_other _ _ (by omega)).mono ?_; rintro e w' ⟨rfl, rfl⟩)
    | (go_at_call 45; refine (coil_one _).mono ?_; rintro e w' ⟨rfl, rfl⟩)
    | (go_at_call 44; (with_reducible refine (pnumber_any (some ⟨b, off, none⟩) 5 c zs 1 p _ Hp.out (HR.out.drewN _) HX.out (by omega)).mono ?_); rintro e w' ⟨rfl, d1, rfl⟩)
    | (go_at_call 44; (with_reducible refine (pnumber_any (some ⟨b, off, none⟩) 5 c zs 1 p _ Hp.out HR.out HX.out (by omega)).mono ?_); rintro e w' ⟨rfl, d1, rfl⟩)
    | (go_at_call 44; (with_reducible refine (pnumber_any (some ⟨b, off, none⟩) 5 c zs 3 65280 _ Hq.out (HR.out.drewN _) HX.out (by omega)).mono ?_); rintro e w' ⟨rfl, d3, rfl⟩)
    | (go_at_call 44; (with_reducible refine (pnumber_any (some ⟨b, off, none⟩) 5 c zs 3 65280 _ Hq.out HR.out HX.out (by omega)).mono ?_); rintro e w' ⟨rfl, d3, rfl⟩))
  obtain ⟨X, hX⟩ : ∃ X, (((((w.alloc (.cells #[.int .i64 0, .int .i64 0, .int .i64 0, .int .u16 0, .int .u16 0, .int .u16 0, .slice none 0 0, .slice none 0 0, .int .i64 0, .int .i64 0, .int .i64 0, .int .i64 0] 30)).alloc (.cells #[.int .i64 5, .int .i64 0, .int .i64 0, .int .u16 0, .int .u16 0, .int .u16 0, .slice none 0 0, .slice none 0 0, .int .i64 0, .int .i64 0, .int .i64 0, .int .i64 0] 30)).drewN (d1 + d3)).setCell ⟨w.heap.size + 1, 1, none⟩ (.int .i64 p)).setCell ⟨w.heap.size + 1, 3, none⟩ (.int .u16 1)) = X := ⟨_, rfl⟩
  have hxa : Below (w.heap.size + 1) ((w.alloc (.cells #[.int .i64 0, .int .i64 0, .int .i64 0, .int .u16 0, .int .u16 0, .int .u16 0, .slice none 0 0, .slice none 0 0, .int .i64 0, .int .i64 0, .int .i64 0, .int .i64 0] 30)).alloc (.cells #[.int .i64 5, .int .i64 0, .int .i64 0, .int .u16 0, .int .u16 0, .int .u16 0, .slice none 0 0, .slice none 0 0, .int .i64 0, .int .i64 0, .int .i64 0, .int .i64 0] 30)) X := by rw [← hX]; exact (((below_drewN (Below.refl (w.heap.size + 1) _) (d1 + d3)).setCell (p := ⟨w.heap.size + 1, 1, none⟩) (Nat.le_refl _) (.int .i64 p)).setCell (p := ⟨w.heap.size + 1, 3, none⟩) (Nat.le_refl _) (.int .u16 1))
  have hx0 : WholeV X w.heap.size 30 [.int .i64 0, .int .i64 0, .int .i64 0, .int .u16 0, .int .u16 0, .int .u16 0, .slice none 0 0, .slice none 0 0, .int .i64 0, .int .i64 0, .int .i64 0, .int .i64 0] := HG2.out.below hxa (Nat.lt_succ_self _)
  have hxb : Below w.heap.size w X := HKW.out.trans (hxa.mono (Nat.le_succ _))
  rw [hX]
  obtain ⟨w9, hw9⟩ : ∃ w9, ((((((((((((X.setCell ⟨w.heap.size, 0, none⟩ (.int .i64 5)).setCell ⟨w.heap.size, 1, none⟩ (.int .i64 p)).setCell ⟨w.heap.size, 2, none⟩ (.int .i64 0)).setCell ⟨w.heap.size, 3, none⟩ (.int .u16 1)).setCell ⟨w.heap.size, 4, none⟩ (.int .u16 0)).setCell ⟨w.heap.size, 5, none⟩ (.int .u16 0)).setCell ⟨w.heap.size, 6, none⟩ (.slice none 0 0)).setCell ⟨w.heap.size, 7, none⟩ (.slice none 0 0)).setCell ⟨w.heap.size, 8, none⟩ (.int .i64 0)).setCell ⟨w.heap.size, 9, none⟩ (.int .i64 0)).setCell ⟨w.heap.size, 10, none⟩ (.int .i64 0)).setCell ⟨w.heap.size, 11, none⟩ (.int .i64 0)) = w9 := ⟨_, rfl⟩
  have hwh := all12 hx0 (.int .i64 5) (.int .i64 p) (.int .i64 0) (.int .u16 1) (.int .u16 0) (.int .u16 0) (.slice none 0 0) (.slice none 0 0) (.int .i64 0) (.int .i64 0) (.int .i64 0) (.int .i64 0) rfl
  have hbb := bel12 hxb (.int .i64 5) (.int .i64 p) (.int .i64 0) (.int .u16 1) (.int .u16 0) (.int .u16 0) (.slice none 0 0) (.slice none 0 0) (.int .i64 0) (.int .i64 0) (.int .i64 0) (.int .i64 0)
  rw [hw9] at hwh hbb
  rw [hw9]
  obtain ⟨he0, he1, he2, he3, he4, he5, he6, he7, he8, he9, he10, he11⟩ := cells12 hwh
  exact bodyPost_ret (v := .tuple #[.agg #[.int .i64 5, .int .i64 p, .int .i64 0, .int .u16 1, .int .u16 0, .int .u16 0, .slice none 0 0, .slice none 0 0, .int .i64 0, .int .i64 0, .int .i64 0, .int .i64 0], .bool true]) (by simp [results, Try.results23, go_sem, he0, he1, he2, he3, he4, he5, he6, he7, he8, he9, he10, he11]) rfl ⟨rfl, hbb⟩

set_option maxRecDepth 100000 in
set_option maxHeartbeats 600000 in
theorem pfields_other_5 (A : Option Addr) (n c : Nat) (zs : List Int) (w : World) (hr : Row .u8 w w.heap.size A n zs) (hx : Bytes8 zs) (hn : n ≤ 1000) (h1 : 1 ≤ n) (p q : Int) (h0 : zs.getD 0 0 = 5) (hl : n = 5) (hp : gotW zs n 1 = p) (hq : gotW zs n 3 = q) (hq0 : ¬ q = 0) (hq1 : ¬ q = 65280) :
    Calls Try.prog 23 #[.slice A n c] w fun e w' => e = .returned (.tuple #[.agg #[.int .i64 5, .int .i64 p, .int .i64 0, .int .u16 0, .int .u16 0, .int .u16 0, .slice none 0 0, .slice none 0 0, .int .i64 0, .int .i64 0, .int .i64 0, .int .i64 0], .bool false]) ∧ Below w.heap.size w w' := by
  obtain ⟨lop, hip⟩ := gotW_bounds hx n 1
  rw [hp] at lop hip
  obtain ⟨loq, hiq⟩ := gotW_bounds hx n 3
  rw [hq] at loq hiq
  subst hl
  obtain ⟨b, off, rfl, hb, hcell⟩ := hr.2 (by omega)
  have hc0 : (w.alloc (.cells #[.int .i64 0, .int .i64 0, .int .i64 0, .int .u16 0, .int .u16 0, .int .u16 0, .slice none 0 0, .slice none 0 0, .int .i64 0, .int .i64 0, .int .i64 0, .int .i64 0] 30)).cell? ⟨b, off, none⟩ = some (.int .u8 5) := by
    rw [World.cell?_alloc_lt w _ ⟨b, off, none⟩ hb]
    have := hcell 0 (by omega)
    rw [Nat.add_zero, h0] at this
    exact this
  have hkw : Below w.heap.size w ((w.alloc (.cells #[.int .i64 0, .int .i64 0, .int .i64 0, .int .u16 0, .int .u16 0, .int .u16 0, .slice none 0 0, .slice none 0 0, .int .i64 0, .int .i64 0, .int .i64 0, .int .i64 0] 30)).alloc (.cells #[.int .i64 5, .int .i64 0, .int .i64 0, .int .u16 0, .int .u16 0, .int .u16 0, .slice none 0 0, .slice none 0 0, .int .i64 0, .int .i64 0, .int .i64 0, .int .i64 0] 30)) := ((Below.refl _ _).alloc (Nat.le_refl _) _).alloc (by simp) _
  have HR := Lib.hid ((hr.below hkw).more hkw.size)
  have HX := Lib.hid hx
  have HKW := Lib.hid hkw
  have HG4 : Hid (WholeV ((w.alloc (.cells #[.int .i64 0, .int .i64 0, .int .i64 0, .int .u16 0, .int .u16 0, .int .u16 0, .slice none 0 0, .slice none 0 0, .int .i64 0, .int .i64 0, .int .i64 0, .int .i64 0] 30)).alloc (.cells #[.int .i64 5, .int .i64 0, .int .i64 0, .int .u16 0, .int .u16 0, .int .u16 0, .slice none 0 0, .slice none 0 0, .int .i64 0, .int .i64 0, .int .i64 0, .int .i64 0] 30)) (w.heap.size + 1) 30 [.int .i64 5, .int .i64 0, .int .i64 0, .int .u16 0, .int .u16 0, .int .u16 0, .slice none 0 0, .slice none 0 0, .int .i64 0, .int .i64 0, .int .i64 0, .int .i64 0]) := by
    have h := heap_alloc_new (w.alloc (.cells #[.int .i64 0, .int .i64 0, .int .i64 0, .int .u16 0, .int .u16 0, .int .u16 0, .slice none 0 0, .slice none 0 0, .int .i64 0, .int .i64 0, .int .i64 0, .int .i64 0] 30)) (.cells #[.int .i64 5, .int .i64 0, .int .i64 0, .int .u16 0, .int .u16 0, .int .u16 0, .slice none 0 0, .slice none 0 0, .int .i64 0, .int .i64 0, .int .i64 0, .int .i64 0] 30)
    rwa [show (w.alloc (.cells #[.int .i64 0, .int .i64 0, .int .i64 0, .int .u16 0, .int .u16 0, .int .u16 0, .slice none 0 0, .slice none 0 0, .int .i64 0, .int .i64 0, .int .i64 0, .int .i64 0] 30)).heap.size = w.heap.size + 1 by simp] at h
  have HG2 : Hid (WholeV ((w.alloc (.cells #[.int .i64 0, .int .i64 0, .int .i64 0, .int .u16 0, .int .u16 0, .int .u16 0, .slice none 0 0, .slice none 0 0, .int .i64 0, .int .i64 0, .int .i64 0, .int .i64 0] 30)).alloc (.cells #[.int .i64 5, .int .i64 0, .int .i64 0, .int .u16 0, .int .u16 0, .int .u16 0, .slice none 0 0, .slice none 0 0, .int .i64 0, .int .i64 0, .int .i64 0, .int .i64 0] 30)) w.heap.size 30 [.int .i64 0, .int .i64 0, .int .i64 0, .int .u16 0, .int .u16 0, .int .u16 0, .slice none 0 0, .slice none 0 0, .int .i64 0, .int .i64 0, .int .i64 0, .int .i64 0]) := by
    have h : WholeV (w.alloc (.cells #[.int .i64 0, .int .i64 0, .int .i64 0, .int .u16 0, .int .u16 0, .int .u16 0, .slice none 0 0, .slice none 0 0, .int .i64 0, .int .i64 0, .int .i64 0, .int .i64 0] 30)) w.heap.size 30 [.int .i64 0, .int .i64 0, .int .i64 0, .int .u16 0, .int .u16 0, .int .u16 0, .slice none 0 0, .slice none 0 0, .int .i64 0, .int .i64 0, .int .i64 0, .int .i64 0] := heap_alloc_new w _
    exact h.below ((Below.refl _ _).alloc (Nat.le_refl _) _) (by simp)
  clear hr hx hcell hkw
  have H0 := Lib.hid h0
  clear h0
  have Hp := Lib.hid hp
  have Hq := Lib.hid hq
  clear hp hq
  go_enter Try.func23, Try.ntmps23
  go_wp2_with (first
    | (go_at_call 42; refine (psize_5 _ 5 c zs _ 5 HR.out hn h1 H0.out (by omega)).mono ?_; rintro e w' ⟨rfl, rfl⟩)
    | (go_at_call 43; refine (pair_other _ _ (by omega)).mono ?_; rintro e w' ⟨rfl, rfl⟩)
    | (go_at_call 45; refine (coil_other q _ hq0 hq1).mono ?_; rintro e w' ⟨rfl, rfl⟩)
    | (go_at_call 44; (with_reducible refine (pnumber_any (some ⟨b, off, none⟩) 5 c zs 1 p _ Hp.out (HR.out.drewN _) HX.out (by omega)).mono ?_); rintro e w' ⟨rfl, d1, rfl⟩)
    | (go_at_call 44; (with_reducible refine (pnumber_any (some ⟨b, off, none⟩) 5 c zs 1 p _ Hp.out HR.out HX.out (by omega)).mono ?_); rintro e w' ⟨rfl, d1, rfl⟩)
    | (go_at_call 44; (with_reducible refine (pnumber_any (some ⟨b, off, none⟩) 5 c zs 3 q _ Hq.out (HR.out.drewN _) HX.out (by omega)).mono ?_); rintro e w' ⟨rfl, d3, rfl⟩)
    | (go_at_call 44; (with_reducible refine (pnumber_any (some ⟨b, off, none⟩) 5 c zs 3 q _ Hq.out HR.out HX.out (by omega)).mono ?_); rintro e w' ⟨rfl, d3, rfl⟩))
  obtain ⟨X, hX⟩ : ∃ X, (((((w.alloc (.cells #[.int .i64 0, .int .i64 0, .int .i64 0, .int .u16 0, .int .u16 0, .int .u16 0, .slice none 0 0, .slice none 0 0, .int .i64 0, .int .i64 0, .int .i64 0, .int .i64 0] 30)).alloc (.cells #[.int .i64 5, .int .i64 0, .int .i64 0, .int .u16 0, .int .u16 0, .int .u16 0, .slice none 0 0, .slice none 0 0, .int .i64 0, .int .i64 0, .int .i64 0, .int .i64 0] 30)).drewN (d1 + d3)).setCell ⟨w.heap.size + 1, 1, none⟩ (.int .i64 p)).setCell ⟨w.heap.size + 1, 3, none⟩ (.int .u16 0)) = X := ⟨_, rfl⟩
  have hxa : Below (w.heap.size + 1) ((w.alloc (.cells #[.int .i64 0, .int .i64 0, .int .i64 0, .int .u16 0, .int .u16 0, .int .u16 0, .slice none 0 0, .slice none 0 0, .int .i64 0, .int .i64 0, .int .i64 0, .int .i64 0] 30)).alloc (.cells #[.int .i64 5, .int .i64 0, .int .i64 0, .int .u16 0, .int .u16 0, .int .u16 0, .slice none 0 0, .slice none 0 0, .int .i64 0, .int .i64 0, .int .i64 0, .int .i64 0] 30)) X := by rw [← hX]; exact (((below_drewN (Below.refl (w.heap.size + 1) _) (d1 + d3)).setCell (p := ⟨w.heap.size + 1, 1, none⟩) (Nat.le_refl _) (.int .i64 p)).setCell (p := ⟨w.heap.size + 1, 3, none⟩) (Nat.le_refl _) (.int .u16 0))
  have hx0 : WholeV X w.heap.size 30 [.int .i64 0, .int .i64 0, .int .i64 0, .int .u16 0, .int .u16 0, .int .u16 0, .slice none 0 0, .slice none 0 0, .int .i64 0, .int .i64 0, .int .i64 0, .int .i64 0] := HG2.out.below hxa (Nat.lt_succ_self _)
  have hxb : Below w.heap.size w X := HKW.out.trans (hxa.mono (Nat.le_succ _))
  rw [hX]
  obtain ⟨w9, hw9⟩ : ∃ w9, ((((((((((((X.setCell ⟨w.heap.size, 0, none⟩ (.int .i64 5)).setCell ⟨w.heap.size, 1, none⟩ (.int .i64 p)).setCell ⟨w.heap.size, 2, none⟩ (.int .i64 0)).setCell ⟨w.heap.size, 3, none⟩ (.int .u16 0)).setCell ⟨w.heap.size, 4, none⟩ (.int .u16 0)).setCell ⟨w.heap.size, 5, none⟩ (.int .u16 0)).setCell ⟨w.heap.size, 6, none⟩ (.slice none 0 0)).setCell ⟨w.heap.size, 7, none⟩ (.slice none 0 0)).setCell ⟨w.heap.size, 8, none⟩ (.int .i64 0)).setCell ⟨w.heap.size, 9, none⟩ (.int .i64 0)).setCell ⟨w.heap.size, 10, none⟩ (.int .i64 0)).setCell ⟨w.heap.size, 11, none⟩ (.int .i64 0)) = w9 := ⟨_, rfl⟩
  have hwh := all12 hx0 (.int .i64 5) (.int .i64 p) (.int .i64 0) (.int .u16 0) (.int .u16 0) (.int .u16 0) (.slice none 0 0) (.slice none 0 0) (.int .i64 0) (.int .i64 0) (.int .i64 0) (.int .i64 0) rfl
  have hbb := bel12 hxb (.int .i64 5) (.int .i64 p) (.int .i64 0) (.int .u16 0) (.int .u16 0) (.int .u16 0) (.slice none 0 0) (.slice none 0 0) (.int .i64 0) (.int .i64 0) (.int .i64 0) (.int .i64 0)
  rw [hw9] at hwh hbb
  rw [hw9]
  obtain ⟨he0, he1, he2, he3, he4, he5, he6, he7, he8, he9, he10, he11⟩ := cells12 hwh
  exact bodyPost_ret (v := .tuple #[.agg #[.int .i64 5, .int .i64 p, .int .i64 0, .int .u16 0, .int .u16 0, .int .u16 0, .slice none 0 0, .slice none 0 0, .int .i64 0, .int .i64 0, .int .i64 0, .int .i64 0], .bool false]) (by simp [results, Try.results23, go_sem, he0, he1, he2, he3, he4, he5, he6, he7, he8, he9, he10, he11]) rfl ⟨rfl, hbb⟩

end Go.Proofs.Ytebpilfogdenjaa

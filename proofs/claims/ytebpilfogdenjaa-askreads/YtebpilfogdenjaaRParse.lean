/- The document's Parse of a request, over what read answers. -/
import Derived.Test.YtebpilfogdenjaaPParse
import Derived.Test.YtebpilfogdenjaaAskSet
import Derived.Test.YtebpilfogdenjaaAskList2
namespace Go.Proofs.Ytebpilfogdenjaa
open Go.ChangeShapes Go.WideShapes Go.ChangeAt Go.RowKit
set_option linter.unusedVariables false
set_option linter.unusedSimpArgs false

/-- Something came back that is no request. -/
def ReadNo (w : World) (e : Ending) (w' : World) : Prop := FieldsNo w e w'

theorem rparse_edge (A : Option Addr) (n c : Nat) (w : World) (h : n = 0 ∨ 253 < n) :
    Calls Try.prog 12 #[.slice A n c] w (ParsedNo 0 1 w) := by
  rcases h with rfl | h
  · go_enter Try.func12, Try.ntmps12
    go_wp2
    exact bodyPost_ret (v := .tuple #[.agg #[.int .i64 0, .int .i64 0, .int .i64 0, .int .u16 0, .int .u16 0, .int .u16 0, .slice none 0 0, .slice none 0 0, .int .i64 0, .int .i64 0, .int .i64 0, .int .i64 0], .int .i64 1]) (by simp [results, Try.results12, go_sem]) rfl ⟨rfl, (Below.refl _ _).alloc (Nat.le_refl _) _⟩
  · have h1 : (253 : Int) < (n : Int) := by omega
    have h0 : ¬ (n : Int) = 0 := by omega
    go_enter Try.func12, Try.ntmps12
    go_wp2
    exact bodyPost_ret (v := .tuple #[.agg #[.int .i64 0, .int .i64 0, .int .i64 0, .int .u16 0, .int .u16 0, .int .u16 0, .slice none 0 0, .slice none 0 0, .int .i64 0, .int .i64 0, .int .i64 0, .int .i64 0], .int .i64 1]) (by simp [results, Try.results12, go_sem]) rfl ⟨rfl, (Below.refl _ _).alloc (Nat.le_refl _) _⟩

set_option maxHeartbeats 1000000 in
theorem rparse_unknown (A : Option Addr) (n c : Nat) (zs : List Int) (f : Int) (w : World) (hr : Row .u8 w w.heap.size A n zs) (hx : Bytes8 zs) (hn : n ≤ 253) (h1 : 1 ≤ n) (h0 : zs.getD 0 0 = f) (hk : kKnown f = false) :
    Calls Try.prog 12 #[.slice A n c] w (ParsedNo f 1 w) := by
  have HKn := Lib.hid hk
  clear hk
  obtain ⟨b, off, rfl, hb, hcell⟩ := hr.2 (by omega)
  have hbq := hx.at_ 0
  change 0 ≤ zs.getD 0 0 ∧ zs.getD 0 0 ≤ 255 at hbq
  rw [h0] at hbq
  have f0 := hbq.1
  have f1 := hbq.2
  have hc0 : (w.alloc (.cells #[.int .i64 0, .int .i64 0, .int .i64 0, .int .u16 0, .int .u16 0, .int .u16 0, .slice none 0 0, .slice none 0 0, .int .i64 0, .int .i64 0, .int .i64 0, .int .i64 0] 30)).cell? ⟨b, off, none⟩ = some (.int .u8 f) := by
    rw [World.cell?_alloc_lt w _ ⟨b, off, none⟩ hb]
    have := hcell 0 (by omega)
    rw [Nat.add_zero, h0] at this
    exact this
  have hn0 : (0 : Int) < (n : Int) := by omega
  have hn1 : ¬ (n : Int) = 0 := by omega
  have hn2 : ¬ (253 : Int) < (n : Int) := by omega
  have hk2 : Below w.heap.size w ((w.alloc (.cells #[.int .i64 0, .int .i64 0, .int .i64 0, .int .u16 0, .int .u16 0, .int .u16 0, .slice none 0 0, .slice none 0 0, .int .i64 0, .int .i64 0, .int .i64 0, .int .i64 0] 30)).alloc (.cells #[.int .i64 f, .int .i64 0, .int .i64 0, .int .u16 0, .int .u16 0, .int .u16 0, .slice none 0 0, .slice none 0 0, .int .i64 0, .int .i64 0, .int .i64 0, .int .i64 0] 30)) := ((Below.refl _ _).alloc (Nat.le_refl _) _).alloc (by simp) _
  have HR := Lib.hid ((hr.below hk2).more hk2.size)
  have HX := Lib.hid hx
  have HK2 := Lib.hid hk2
  have HG1 : Hid (WholeV ((w.alloc (.cells #[.int .i64 0, .int .i64 0, .int .i64 0, .int .u16 0, .int .u16 0, .int .u16 0, .slice none 0 0, .slice none 0 0, .int .i64 0, .int .i64 0, .int .i64 0, .int .i64 0] 30)).alloc (.cells #[.int .i64 f, .int .i64 0, .int .i64 0, .int .u16 0, .int .u16 0, .int .u16 0, .slice none 0 0, .slice none 0 0, .int .i64 0, .int .i64 0, .int .i64 0, .int .i64 0] 30)) (w.heap.size + 1) 30 [.int .i64 f, .int .i64 0, .int .i64 0, .int .u16 0, .int .u16 0, .int .u16 0, .slice none 0 0, .slice none 0 0, .int .i64 0, .int .i64 0, .int .i64 0, .int .i64 0]) := by
    have h := heap_alloc_new (w.alloc (.cells #[.int .i64 0, .int .i64 0, .int .i64 0, .int .u16 0, .int .u16 0, .int .u16 0, .slice none 0 0, .slice none 0 0, .int .i64 0, .int .i64 0, .int .i64 0, .int .i64 0] 30)) (.cells #[.int .i64 f, .int .i64 0, .int .i64 0, .int .u16 0, .int .u16 0, .int .u16 0, .slice none 0 0, .slice none 0 0, .int .i64 0, .int .i64 0, .int .i64 0, .int .i64 0] 30)
    rwa [show (w.alloc (.cells #[.int .i64 0, .int .i64 0, .int .i64 0, .int .u16 0, .int .u16 0, .int .u16 0, .slice none 0 0, .slice none 0 0, .int .i64 0, .int .i64 0, .int .i64 0, .int .i64 0] 30)).heap.size = w.heap.size + 1 by simp] at h
  have HG0 : Hid (WholeV ((w.alloc (.cells #[.int .i64 0, .int .i64 0, .int .i64 0, .int .u16 0, .int .u16 0, .int .u16 0, .slice none 0 0, .slice none 0 0, .int .i64 0, .int .i64 0, .int .i64 0, .int .i64 0] 30)).alloc (.cells #[.int .i64 f, .int .i64 0, .int .i64 0, .int .u16 0, .int .u16 0, .int .u16 0, .slice none 0 0, .slice none 0 0, .int .i64 0, .int .i64 0, .int .i64 0, .int .i64 0] 30)) w.heap.size 30 [.int .i64 0, .int .i64 0, .int .i64 0, .int .u16 0, .int .u16 0, .int .u16 0, .slice none 0 0, .slice none 0 0, .int .i64 0, .int .i64 0, .int .i64 0, .int .i64 0]) := by
    have h : WholeV (w.alloc (.cells #[.int .i64 0, .int .i64 0, .int .i64 0, .int .u16 0, .int .u16 0, .int .u16 0, .slice none 0 0, .slice none 0 0, .int .i64 0, .int .i64 0, .int .i64 0, .int .i64 0] 30)) w.heap.size 30 [.int .i64 0, .int .i64 0, .int .i64 0, .int .u16 0, .int .u16 0, .int .u16 0, .slice none 0 0, .slice none 0 0, .int .i64 0, .int .i64 0, .int .i64 0, .int .i64 0] := heap_alloc_new w _
    exact h.below ((Below.refl _ _).alloc (Nat.le_refl _) _) (by simp)
  clear hr hx hcell hbq hk2 h0
  go_enter Try.func12, Try.ntmps12
  go_wp2_with (go_at_call 24; refine (known_lit f false _ HKn.out).mono ?_; rintro e w' ⟨rfl, rfl⟩)
  exact bodyPost_ret (v := .tuple #[.agg #[.int .i64 f, .int .i64 0, .int .i64 0, .int .u16 0, .int .u16 0, .int .u16 0, .slice none 0 0, .slice none 0 0, .int .i64 0, .int .i64 0, .int .i64 0, .int .i64 0], .int .i64 1]) (by simp [results, Try.results12, go_sem]) rfl ⟨rfl, ((Below.refl _ _).alloc (Nat.le_refl _) _).alloc (by simp) _⟩

set_option maxHeartbeats 1000000 in
theorem rparse_alone (A : Option Addr) (n c : Nat) (zs : List Int) (w : World) (hr : Row .u8 w w.heap.size A n zs) (hx : Bytes8 zs) (hn : n ≤ 253) (h1 : 1 ≤ n) (h0 : zs.getD 0 0 = 43) (hn' : n = 1) :
    Calls Try.prog 12 #[.slice A n c] w (ParsedNo 43 3 w) := by
  have HKn : Hid (kKnown 43 = true) := rfl
  have hn3 : (n : Int) < 2 := by omega
  obtain ⟨b, off, rfl, hb, hcell⟩ := hr.2 (by omega)
  have hbq := hx.at_ 0
  change 0 ≤ zs.getD 0 0 ∧ zs.getD 0 0 ≤ 255 at hbq
  rw [h0] at hbq
  have f0 := hbq.1
  have f1 := hbq.2
  have hc0 : (w.alloc (.cells #[.int .i64 0, .int .i64 0, .int .i64 0, .int .u16 0, .int .u16 0, .int .u16 0, .slice none 0 0, .slice none 0 0, .int .i64 0, .int .i64 0, .int .i64 0, .int .i64 0] 30)).cell? ⟨b, off, none⟩ = some (.int .u8 43) := by
    rw [World.cell?_alloc_lt w _ ⟨b, off, none⟩ hb]
    have := hcell 0 (by omega)
    rw [Nat.add_zero, h0] at this
    exact this
  have hn0 : (0 : Int) < (n : Int) := by omega
  have hn1 : ¬ (n : Int) = 0 := by omega
  have hn2 : ¬ (253 : Int) < (n : Int) := by omega
  have hk2 : Below w.heap.size w ((w.alloc (.cells #[.int .i64 0, .int .i64 0, .int .i64 0, .int .u16 0, .int .u16 0, .int .u16 0, .slice none 0 0, .slice none 0 0, .int .i64 0, .int .i64 0, .int .i64 0, .int .i64 0] 30)).alloc (.cells #[.int .i64 43, .int .i64 0, .int .i64 0, .int .u16 0, .int .u16 0, .int .u16 0, .slice none 0 0, .slice none 0 0, .int .i64 0, .int .i64 0, .int .i64 0, .int .i64 0] 30)) := ((Below.refl _ _).alloc (Nat.le_refl _) _).alloc (by simp) _
  have HR := Lib.hid ((hr.below hk2).more hk2.size)
  have HX := Lib.hid hx
  have HK2 := Lib.hid hk2
  have HG1 : Hid (WholeV ((w.alloc (.cells #[.int .i64 0, .int .i64 0, .int .i64 0, .int .u16 0, .int .u16 0, .int .u16 0, .slice none 0 0, .slice none 0 0, .int .i64 0, .int .i64 0, .int .i64 0, .int .i64 0] 30)).alloc (.cells #[.int .i64 43, .int .i64 0, .int .i64 0, .int .u16 0, .int .u16 0, .int .u16 0, .slice none 0 0, .slice none 0 0, .int .i64 0, .int .i64 0, .int .i64 0, .int .i64 0] 30)) (w.heap.size + 1) 30 [.int .i64 43, .int .i64 0, .int .i64 0, .int .u16 0, .int .u16 0, .int .u16 0, .slice none 0 0, .slice none 0 0, .int .i64 0, .int .i64 0, .int .i64 0, .int .i64 0]) := by
    have h := heap_alloc_new (w.alloc (.cells #[.int .i64 0, .int .i64 0, .int .i64 0, .int .u16 0, .int .u16 0, .int .u16 0, .slice none 0 0, .slice none 0 0, .int .i64 0, .int .i64 0, .int .i64 0, .int .i64 0] 30)) (.cells #[.int .i64 43, .int .i64 0, .int .i64 0, .int .u16 0, .int .u16 0, .int .u16 0, .slice none 0 0, .slice none 0 0, .int .i64 0, .int .i64 0, .int .i64 0, .int .i64 0] 30)
    rwa [show (w.alloc (.cells #[.int .i64 0, .int .i64 0, .int .i64 0, .int .u16 0, .int .u16 0, .int .u16 0, .slice none 0 0, .slice none 0 0, .int .i64 0, .int .i64 0, .int .i64 0, .int .i64 0] 30)).heap.size = w.heap.size + 1 by simp] at h
  have HG0 : Hid (WholeV ((w.alloc (.cells #[.int .i64 0, .int .i64 0, .int .i64 0, .int .u16 0, .int .u16 0, .int .u16 0, .slice none 0 0, .slice none 0 0, .int .i64 0, .int .i64 0, .int .i64 0, .int .i64 0] 30)).alloc (.cells #[.int .i64 43, .int .i64 0, .int .i64 0, .int .u16 0, .int .u16 0, .int .u16 0, .slice none 0 0, .slice none 0 0, .int .i64 0, .int .i64 0, .int .i64 0, .int .i64 0] 30)) w.heap.size 30 [.int .i64 0, .int .i64 0, .int .i64 0, .int .u16 0, .int .u16 0, .int .u16 0, .slice none 0 0, .slice none 0 0, .int .i64 0, .int .i64 0, .int .i64 0, .int .i64 0]) := by
    have h : WholeV (w.alloc (.cells #[.int .i64 0, .int .i64 0, .int .i64 0, .int .u16 0, .int .u16 0, .int .u16 0, .slice none 0 0, .slice none 0 0, .int .i64 0, .int .i64 0, .int .i64 0, .int .i64 0] 30)) w.heap.size 30 [.int .i64 0, .int .i64 0, .int .i64 0, .int .u16 0, .int .u16 0, .int .u16 0, .slice none 0 0, .slice none 0 0, .int .i64 0, .int .i64 0, .int .i64 0, .int .i64 0] := heap_alloc_new w _
    exact h.below ((Below.refl _ _).alloc (Nat.le_refl _) _) (by simp)
  clear hr hx hcell hbq hk2 h0 hn'
  go_enter Try.func12, Try.ntmps12
  go_wp2_with (go_at_call 24; refine (known_lit 43 true _ HKn.out).mono ?_; rintro e w' ⟨rfl, rfl⟩)
  exact bodyPost_ret (v := .tuple #[.agg #[.int .i64 43, .int .i64 0, .int .i64 0, .int .u16 0, .int .u16 0, .int .u16 0, .slice none 0 0, .slice none 0 0, .int .i64 0, .int .i64 0, .int .i64 0, .int .i64 0], .int .i64 3]) (by simp [results, Try.results12, go_sem]) rfl ⟨rfl, ((Below.refl _ _).alloc (Nat.le_refl _) _).alloc (by simp) _⟩

set_option maxHeartbeats 1000000 in
theorem rparse_14 (A : Option Addr) (n c : Nat) (zs : List Int) (w : World) (hr : Row .u8 w w.heap.size A n zs) (hx : Bytes8 zs) (hn : n ≤ 253) (h1 : 1 ≤ n) (h0 : zs.getD 0 0 = 43) (hn' : 2 ≤ n) (s : Int) (hs : zs.getD 1 0 = s) (hs14 : ¬ s = 14) :
    Calls Try.prog 12 #[.slice A n c] w (ParsedNo 43 1 w) := by
  have HKn : Hid (kKnown 43 = true) := rfl
  have hn3 : ¬ (n : Int) < 2 := by omega
  have hn4 : (1 : Int) < (n : Int) := by omega
  obtain ⟨b, off, rfl, hb, hcell⟩ := hr.2 (by omega)
  have hbq := hx.at_ 0
  change 0 ≤ zs.getD 0 0 ∧ zs.getD 0 0 ≤ 255 at hbq
  rw [h0] at hbq
  have f0 := hbq.1
  have f1 := hbq.2
  have hc0 : (w.alloc (.cells #[.int .i64 0, .int .i64 0, .int .i64 0, .int .u16 0, .int .u16 0, .int .u16 0, .slice none 0 0, .slice none 0 0, .int .i64 0, .int .i64 0, .int .i64 0, .int .i64 0] 30)).cell? ⟨b, off, none⟩ = some (.int .u8 43) := by
    rw [World.cell?_alloc_lt w _ ⟨b, off, none⟩ hb]
    have := hcell 0 (by omega)
    rw [Nat.add_zero, h0] at this
    exact this
  have hn0 : (0 : Int) < (n : Int) := by omega
  have hn1 : ¬ (n : Int) = 0 := by omega
  have hn2 : ¬ (253 : Int) < (n : Int) := by omega
  have hk2 : Below w.heap.size w ((w.alloc (.cells #[.int .i64 0, .int .i64 0, .int .i64 0, .int .u16 0, .int .u16 0, .int .u16 0, .slice none 0 0, .slice none 0 0, .int .i64 0, .int .i64 0, .int .i64 0, .int .i64 0] 30)).alloc (.cells #[.int .i64 43, .int .i64 0, .int .i64 0, .int .u16 0, .int .u16 0, .int .u16 0, .slice none 0 0, .slice none 0 0, .int .i64 0, .int .i64 0, .int .i64 0, .int .i64 0] 30)) := ((Below.refl _ _).alloc (Nat.le_refl _) _).alloc (by simp) _
  have HR := Lib.hid ((hr.below hk2).more hk2.size)
  have HX := Lib.hid hx
  have HK2 := Lib.hid hk2
  have HG1 : Hid (WholeV ((w.alloc (.cells #[.int .i64 0, .int .i64 0, .int .i64 0, .int .u16 0, .int .u16 0, .int .u16 0, .slice none 0 0, .slice none 0 0, .int .i64 0, .int .i64 0, .int .i64 0, .int .i64 0] 30)).alloc (.cells #[.int .i64 43, .int .i64 0, .int .i64 0, .int .u16 0, .int .u16 0, .int .u16 0, .slice none 0 0, .slice none 0 0, .int .i64 0, .int .i64 0, .int .i64 0, .int .i64 0] 30)) (w.heap.size + 1) 30 [.int .i64 43, .int .i64 0, .int .i64 0, .int .u16 0, .int .u16 0, .int .u16 0, .slice none 0 0, .slice none 0 0, .int .i64 0, .int .i64 0, .int .i64 0, .int .i64 0]) := by
    have h := heap_alloc_new (w.alloc (.cells #[.int .i64 0, .int .i64 0, .int .i64 0, .int .u16 0, .int .u16 0, .int .u16 0, .slice none 0 0, .slice none 0 0, .int .i64 0, .int .i64 0, .int .i64 0, .int .i64 0] 30)) (.cells #[.int .i64 43, .int .i64 0, .int .i64 0, .int .u16 0, .int .u16 0, .int .u16 0, .slice none 0 0, .slice none 0 0, .int .i64 0, .int .i64 0, .int .i64 0, .int .i64 0] 30)
    rwa [show (w.alloc (.cells #[.int .i64 0, .int .i64 0, .int .i64 0, .int .u16 0, .int .u16 0, .int .u16 0, .slice none 0 0, .slice none 0 0, .int .i64 0, .int .i64 0, .int .i64 0, .int .i64 0] 30)).heap.size = w.heap.size + 1 by simp] at h
  have HG0 : Hid (WholeV ((w.alloc (.cells #[.int .i64 0, .int .i64 0, .int .i64 0, .int .u16 0, .int .u16 0, .int .u16 0, .slice none 0 0, .slice none 0 0, .int .i64 0, .int .i64 0, .int .i64 0, .int .i64 0] 30)).alloc (.cells #[.int .i64 43, .int .i64 0, .int .i64 0, .int .u16 0, .int .u16 0, .int .u16 0, .slice none 0 0, .slice none 0 0, .int .i64 0, .int .i64 0, .int .i64 0, .int .i64 0] 30)) w.heap.size 30 [.int .i64 0, .int .i64 0, .int .i64 0, .int .u16 0, .int .u16 0, .int .u16 0, .slice none 0 0, .slice none 0 0, .int .i64 0, .int .i64 0, .int .i64 0, .int .i64 0]) := by
    have h : WholeV (w.alloc (.cells #[.int .i64 0, .int .i64 0, .int .i64 0, .int .u16 0, .int .u16 0, .int .u16 0, .slice none 0 0, .slice none 0 0, .int .i64 0, .int .i64 0, .int .i64 0, .int .i64 0] 30)) w.heap.size 30 [.int .i64 0, .int .i64 0, .int .i64 0, .int .u16 0, .int .u16 0, .int .u16 0, .slice none 0 0, .slice none 0 0, .int .i64 0, .int .i64 0, .int .i64 0, .int .i64 0] := heap_alloc_new w _
    exact h.below ((Below.refl _ _).alloc (Nat.le_refl _) _) (by simp)
  have hc1 : ((w.alloc (.cells #[.int .i64 0, .int .i64 0, .int .i64 0, .int .u16 0, .int .u16 0, .int .u16 0, .slice none 0 0, .slice none 0 0, .int .i64 0, .int .i64 0, .int .i64 0, .int .i64 0] 30)).alloc (.cells #[.int .i64 43, .int .i64 0, .int .i64 0, .int .u16 0, .int .u16 0, .int .u16 0, .slice none 0 0, .slice none 0 0, .int .i64 0, .int .i64 0, .int .i64 0, .int .i64 0] 30)).cell? ⟨b, off + 1, none⟩ = some (.int .u8 s) := by rw [hk2.cell hb, hcell 1 (by omega), hs]
  clear hr hx hcell hbq hk2 h0 hs
  go_enter Try.func12, Try.ntmps12
  go_wp2_with (go_at_call 24; refine (known_lit 43 true _ HKn.out).mono ?_; rintro e w' ⟨rfl, rfl⟩)
  exact bodyPost_ret (v := .tuple #[.agg #[.int .i64 43, .int .i64 0, .int .i64 0, .int .u16 0, .int .u16 0, .int .u16 0, .slice none 0 0, .slice none 0 0, .int .i64 0, .int .i64 0, .int .i64 0, .int .i64 0], .int .i64 1]) (by simp [results, Try.results12, go_sem]) rfl ⟨rfl, ((Below.refl _ _).alloc (Nat.le_refl _) _).alloc (by simp) _⟩

set_option maxHeartbeats 1000000 in
theorem rparse_none (A : Option Addr) (n c : Nat) (zs : List Int) (f : Int) (w : World) (hr : Row .u8 w w.heap.size A n zs) (hx : Bytes8 zs) (hn : n ≤ 253) (h1 : 1 ≤ n) (h0 : zs.getD 0 0 = f) (hk : kKnown f = true) (hf43 : ¬ f = 43)
    (hf : ∀ W, Row .u8 W W.heap.size A n zs → Calls Try.prog 25 #[.slice A n c] W (FieldsNo W)) :
    Calls Try.prog 12 #[.slice A n c] w (ParsedNo f 3 w) := by
  have HFD := Lib.hid hf
  clear hf
  have HKn := Lib.hid hk
  clear hk
  obtain ⟨b, off, rfl, hb, hcell⟩ := hr.2 (by omega)
  have hbq := hx.at_ 0
  change 0 ≤ zs.getD 0 0 ∧ zs.getD 0 0 ≤ 255 at hbq
  rw [h0] at hbq
  have f0 := hbq.1
  have f1 := hbq.2
  have hc0 : (w.alloc (.cells #[.int .i64 0, .int .i64 0, .int .i64 0, .int .u16 0, .int .u16 0, .int .u16 0, .slice none 0 0, .slice none 0 0, .int .i64 0, .int .i64 0, .int .i64 0, .int .i64 0] 30)).cell? ⟨b, off, none⟩ = some (.int .u8 f) := by
    rw [World.cell?_alloc_lt w _ ⟨b, off, none⟩ hb]
    have := hcell 0 (by omega)
    rw [Nat.add_zero, h0] at this
    exact this
  have hn0 : (0 : Int) < (n : Int) := by omega
  have hn1 : ¬ (n : Int) = 0 := by omega
  have hn2 : ¬ (253 : Int) < (n : Int) := by omega
  have hk2 : Below w.heap.size w ((w.alloc (.cells #[.int .i64 0, .int .i64 0, .int .i64 0, .int .u16 0, .int .u16 0, .int .u16 0, .slice none 0 0, .slice none 0 0, .int .i64 0, .int .i64 0, .int .i64 0, .int .i64 0] 30)).alloc (.cells #[.int .i64 f, .int .i64 0, .int .i64 0, .int .u16 0, .int .u16 0, .int .u16 0, .slice none 0 0, .slice none 0 0, .int .i64 0, .int .i64 0, .int .i64 0, .int .i64 0] 30)) := ((Below.refl _ _).alloc (Nat.le_refl _) _).alloc (by simp) _
  have HR := Lib.hid ((hr.below hk2).more hk2.size)
  have HX := Lib.hid hx
  have HK2 := Lib.hid hk2
  have HG1 : Hid (WholeV ((w.alloc (.cells #[.int .i64 0, .int .i64 0, .int .i64 0, .int .u16 0, .int .u16 0, .int .u16 0, .slice none 0 0, .slice none 0 0, .int .i64 0, .int .i64 0, .int .i64 0, .int .i64 0] 30)).alloc (.cells #[.int .i64 f, .int .i64 0, .int .i64 0, .int .u16 0, .int .u16 0, .int .u16 0, .slice none 0 0, .slice none 0 0, .int .i64 0, .int .i64 0, .int .i64 0, .int .i64 0] 30)) (w.heap.size + 1) 30 [.int .i64 f, .int .i64 0, .int .i64 0, .int .u16 0, .int .u16 0, .int .u16 0, .slice none 0 0, .slice none 0 0, .int .i64 0, .int .i64 0, .int .i64 0, .int .i64 0]) := by
    have h := heap_alloc_new (w.alloc (.cells #[.int .i64 0, .int .i64 0, .int .i64 0, .int .u16 0, .int .u16 0, .int .u16 0, .slice none 0 0, .slice none 0 0, .int .i64 0, .int .i64 0, .int .i64 0, .int .i64 0] 30)) (.cells #[.int .i64 f, .int .i64 0, .int .i64 0, .int .u16 0, .int .u16 0, .int .u16 0, .slice none 0 0, .slice none 0 0, .int .i64 0, .int .i64 0, .int .i64 0, .int .i64 0] 30)
    rwa [show (w.alloc (.cells #[.int .i64 0, .int .i64 0, .int .i64 0, .int .u16 0, .int .u16 0, .int .u16 0, .slice none 0 0, .slice none 0 0, .int .i64 0, .int .i64 0, .int .i64 0, .int .i64 0] 30)).heap.size = w.heap.size + 1 by simp] at h
  have HG0 : Hid (WholeV ((w.alloc (.cells #[.int .i64 0, .int .i64 0, .int .i64 0, .int .u16 0, .int .u16 0, .int .u16 0, .slice none 0 0, .slice none 0 0, .int .i64 0, .int .i64 0, .int .i64 0, .int .i64 0] 30)).alloc (.cells #[.int .i64 f, .int .i64 0, .int .i64 0, .int .u16 0, .int .u16 0, .int .u16 0, .slice none 0 0, .slice none 0 0, .int .i64 0, .int .i64 0, .int .i64 0, .int .i64 0] 30)) w.heap.size 30 [.int .i64 0, .int .i64 0, .int .i64 0, .int .u16 0, .int .u16 0, .int .u16 0, .slice none 0 0, .slice none 0 0, .int .i64 0, .int .i64 0, .int .i64 0, .int .i64 0]) := by
    have h : WholeV (w.alloc (.cells #[.int .i64 0, .int .i64 0, .int .i64 0, .int .u16 0, .int .u16 0, .int .u16 0, .slice none 0 0, .slice none 0 0, .int .i64 0, .int .i64 0, .int .i64 0, .int .i64 0] 30)) w.heap.size 30 [.int .i64 0, .int .i64 0, .int .i64 0, .int .u16 0, .int .u16 0, .int .u16 0, .slice none 0 0, .slice none 0 0, .int .i64 0, .int .i64 0, .int .i64 0, .int .i64 0] := heap_alloc_new w _
    exact h.below ((Below.refl _ _).alloc (Nat.le_refl _) _) (by simp)
  clear hr hx hcell hbq hk2 h0
  go_enter Try.func12, Try.ntmps12
  go_wp2_with (first
    | (go_at_call 24; refine (known_lit f true _ HKn.out).mono ?_; rintro e w' ⟨rfl, rfl⟩)
    | (go_at_call 25
       refine (HFD.out _ HR.out).mono ?_
       rintro e w5 ⟨fn, at_, nn, v, an, orr, bl, wl, ra, rn, co, ob, BA, WA, bc, wc, rfl, hb5⟩
       have h0 := HG0.out.below hb5 HG0.out.lt
       have h1 := HG1.out.below hb5 HG1.out.lt
       have HB5 : Hid (Below w.heap.size w w5) := HK2.out.trans (hb5.mono HK2.out.size)
       have hka : Below w5.heap.size w5 (w5.alloc (.cells #[.int .i64 fn, .int .i64 at_, .int .i64 nn, .int .u16 v, .int .u16 an, .int .u16 orr, .slice BA bl bc, .slice WA wl wc, .int .i64 ra, .int .i64 rn, .int .i64 co, .int .i64 ob] 30)) := (Below.refl _ _).alloc (Nat.le_refl _) _
       have h0a := h0.below hka h0.lt
       have h1a := h1.below hka h1.lt
       have HBa : Hid (Below w.heap.size w (w5.alloc (.cells #[.int .i64 fn, .int .i64 at_, .int .i64 nn, .int .u16 v, .int .u16 an, .int .u16 orr, .slice BA bl bc, .slice WA wl wc, .int .i64 ra, .int .i64 rn, .int .i64 co, .int .i64 ob] 30))) := HB5.out.trans (hka.mono HB5.out.size)
       have hz5 : w.heap.size + 2 ≤ w5.heap.size := h1.lt
       obtain ⟨hp0, hp1, hp2, hp3, hp4, hp5, hp6, hp7, hp8, hp9, hp10, hp11⟩ := cells12 h0a
       obtain ⟨hq0, hq1, hq2, hq3, hq4, hq5, hq6, hq7, hq8, hq9, hq10, hq11⟩ := cells12 h1a
       obtain ⟨hg0, hg1, hg2, hg3, hg4, hg5, hg6, hg7, hg8, hg9, hg10, hg11⟩ := frozen12 h0a
       have H0a := Lib.hid h0a
       clear h0 h1 h0a h1a hka hb5))
  obtain ⟨X, hX⟩ : ∃ X, w5.alloc (.cells #[.int .i64 fn, .int .i64 at_, .int .i64 nn, .int .u16 v, .int .u16 an, .int .u16 orr, .slice BA bl bc, .slice WA wl wc, .int .i64 ra, .int .i64 rn, .int .i64 co, .int .i64 ob] 30) = X := ⟨_, rfl⟩
  have hx0 : WholeV X w.heap.size 30 [.int .i64 0, .int .i64 0, .int .i64 0, .int .u16 0, .int .u16 0, .int .u16 0, .slice none 0 0, .slice none 0 0, .int .i64 0, .int .i64 0, .int .i64 0, .int .i64 0] := by rw [← hX]; exact H0a.out
  have hxb : Below w.heap.size w X := by rw [← hX]; exact HBa.out
  rw [hX]
  obtain ⟨w9, hw9, hwh, hbb⟩ := set12 hx0 hxb (.int .i64 f) (.int .i64 0) (.int .i64 0) (.int .u16 0) (.int .u16 0) (.int .u16 0) (.slice none 0 0) (.slice none 0 0) (.int .i64 0) (.int .i64 0) (.int .i64 0) (.int .i64 0) rfl
  rw [hw9]
  obtain ⟨he0, he1, he2, he3, he4, he5, he6, he7, he8, he9, he10, he11⟩ := cells12 hwh
  exact bodyPost_ret (v := .tuple #[.agg #[.int .i64 f, .int .i64 0, .int .i64 0, .int .u16 0, .int .u16 0, .int .u16 0, .slice none 0 0, .slice none 0 0, .int .i64 0, .int .i64 0, .int .i64 0, .int .i64 0], .int .i64 3]) (by simp [results, Try.results12, go_sem, he0, he1, he2, he3, he4, he5, he6, he7, he8, he9, he10, he11]) rfl ⟨rfl, hbb⟩

set_option maxHeartbeats 1000000 in
theorem rparse_none_43 (A : Option Addr) (n c : Nat) (zs : List Int) (w : World) (hr : Row .u8 w w.heap.size A n zs) (hx : Bytes8 zs) (hn : n ≤ 253) (h1 : 1 ≤ n) (h0 : zs.getD 0 0 = 43) (hn' : 2 ≤ n) (hs : zs.getD 1 0 = 14)
    (hf : ∀ W, Row .u8 W W.heap.size A n zs → Calls Try.prog 25 #[.slice A n c] W (FieldsNo W)) :
    Calls Try.prog 12 #[.slice A n c] w (ParsedNo 43 3 w) := by
  have HFD := Lib.hid hf
  clear hf
  have HKn : Hid (kKnown 43 = true) := rfl
  have hn3 : ¬ (n : Int) < 2 := by omega
  have hn4 : (1 : Int) < (n : Int) := by omega
  obtain ⟨b, off, rfl, hb, hcell⟩ := hr.2 (by omega)
  have hbq := hx.at_ 0
  change 0 ≤ zs.getD 0 0 ∧ zs.getD 0 0 ≤ 255 at hbq
  rw [h0] at hbq
  have f0 := hbq.1
  have f1 := hbq.2
  have hc0 : (w.alloc (.cells #[.int .i64 0, .int .i64 0, .int .i64 0, .int .u16 0, .int .u16 0, .int .u16 0, .slice none 0 0, .slice none 0 0, .int .i64 0, .int .i64 0, .int .i64 0, .int .i64 0] 30)).cell? ⟨b, off, none⟩ = some (.int .u8 43) := by
    rw [World.cell?_alloc_lt w _ ⟨b, off, none⟩ hb]
    have := hcell 0 (by omega)
    rw [Nat.add_zero, h0] at this
    exact this
  have hn0 : (0 : Int) < (n : Int) := by omega
  have hn1 : ¬ (n : Int) = 0 := by omega
  have hn2 : ¬ (253 : Int) < (n : Int) := by omega
  have hk2 : Below w.heap.size w ((w.alloc (.cells #[.int .i64 0, .int .i64 0, .int .i64 0, .int .u16 0, .int .u16 0, .int .u16 0, .slice none 0 0, .slice none 0 0, .int .i64 0, .int .i64 0, .int .i64 0, .int .i64 0] 30)).alloc (.cells #[.int .i64 43, .int .i64 0, .int .i64 0, .int .u16 0, .int .u16 0, .int .u16 0, .slice none 0 0, .slice none 0 0, .int .i64 0, .int .i64 0, .int .i64 0, .int .i64 0] 30)) := ((Below.refl _ _).alloc (Nat.le_refl _) _).alloc (by simp) _
  have HR := Lib.hid ((hr.below hk2).more hk2.size)
  have HX := Lib.hid hx
  have HK2 := Lib.hid hk2
  have HG1 : Hid (WholeV ((w.alloc (.cells #[.int .i64 0, .int .i64 0, .int .i64 0, .int .u16 0, .int .u16 0, .int .u16 0, .slice none 0 0, .slice none 0 0, .int .i64 0, .int .i64 0, .int .i64 0, .int .i64 0] 30)).alloc (.cells #[.int .i64 43, .int .i64 0, .int .i64 0, .int .u16 0, .int .u16 0, .int .u16 0, .slice none 0 0, .slice none 0 0, .int .i64 0, .int .i64 0, .int .i64 0, .int .i64 0] 30)) (w.heap.size + 1) 30 [.int .i64 43, .int .i64 0, .int .i64 0, .int .u16 0, .int .u16 0, .int .u16 0, .slice none 0 0, .slice none 0 0, .int .i64 0, .int .i64 0, .int .i64 0, .int .i64 0]) := by
    have h := heap_alloc_new (w.alloc (.cells #[.int .i64 0, .int .i64 0, .int .i64 0, .int .u16 0, .int .u16 0, .int .u16 0, .slice none 0 0, .slice none 0 0, .int .i64 0, .int .i64 0, .int .i64 0, .int .i64 0] 30)) (.cells #[.int .i64 43, .int .i64 0, .int .i64 0, .int .u16 0, .int .u16 0, .int .u16 0, .slice none 0 0, .slice none 0 0, .int .i64 0, .int .i64 0, .int .i64 0, .int .i64 0] 30)
    rwa [show (w.alloc (.cells #[.int .i64 0, .int .i64 0, .int .i64 0, .int .u16 0, .int .u16 0, .int .u16 0, .slice none 0 0, .slice none 0 0, .int .i64 0, .int .i64 0, .int .i64 0, .int .i64 0] 30)).heap.size = w.heap.size + 1 by simp] at h
  have HG0 : Hid (WholeV ((w.alloc (.cells #[.int .i64 0, .int .i64 0, .int .i64 0, .int .u16 0, .int .u16 0, .int .u16 0, .slice none 0 0, .slice none 0 0, .int .i64 0, .int .i64 0, .int .i64 0, .int .i64 0] 30)).alloc (.cells #[.int .i64 43, .int .i64 0, .int .i64 0, .int .u16 0, .int .u16 0, .int .u16 0, .slice none 0 0, .slice none 0 0, .int .i64 0, .int .i64 0, .int .i64 0, .int .i64 0] 30)) w.heap.size 30 [.int .i64 0, .int .i64 0, .int .i64 0, .int .u16 0, .int .u16 0, .int .u16 0, .slice none 0 0, .slice none 0 0, .int .i64 0, .int .i64 0, .int .i64 0, .int .i64 0]) := by
    have h : WholeV (w.alloc (.cells #[.int .i64 0, .int .i64 0, .int .i64 0, .int .u16 0, .int .u16 0, .int .u16 0, .slice none 0 0, .slice none 0 0, .int .i64 0, .int .i64 0, .int .i64 0, .int .i64 0] 30)) w.heap.size 30 [.int .i64 0, .int .i64 0, .int .i64 0, .int .u16 0, .int .u16 0, .int .u16 0, .slice none 0 0, .slice none 0 0, .int .i64 0, .int .i64 0, .int .i64 0, .int .i64 0] := heap_alloc_new w _
    exact h.below ((Below.refl _ _).alloc (Nat.le_refl _) _) (by simp)
  have hc1 : ((w.alloc (.cells #[.int .i64 0, .int .i64 0, .int .i64 0, .int .u16 0, .int .u16 0, .int .u16 0, .slice none 0 0, .slice none 0 0, .int .i64 0, .int .i64 0, .int .i64 0, .int .i64 0] 30)).alloc (.cells #[.int .i64 43, .int .i64 0, .int .i64 0, .int .u16 0, .int .u16 0, .int .u16 0, .slice none 0 0, .slice none 0 0, .int .i64 0, .int .i64 0, .int .i64 0, .int .i64 0] 30)).cell? ⟨b, off + 1, none⟩ = some (.int .u8 14) := by rw [hk2.cell hb, hcell 1 (by omega), hs]
  clear hs
  clear hr hx hcell hbq hk2 h0
  go_enter Try.func12, Try.ntmps12
  go_wp2_with (first
    | (go_at_call 24; refine (known_lit 43 true _ HKn.out).mono ?_; rintro e w' ⟨rfl, rfl⟩)
    | (go_at_call 25
       refine (HFD.out _ HR.out).mono ?_
       rintro e w5 ⟨fn, at_, nn, v, an, orr, bl, wl, ra, rn, co, ob, BA, WA, bc, wc, rfl, hb5⟩
       have h0 := HG0.out.below hb5 HG0.out.lt
       have h1 := HG1.out.below hb5 HG1.out.lt
       have HB5 : Hid (Below w.heap.size w w5) := HK2.out.trans (hb5.mono HK2.out.size)
       have hka : Below w5.heap.size w5 (w5.alloc (.cells #[.int .i64 fn, .int .i64 at_, .int .i64 nn, .int .u16 v, .int .u16 an, .int .u16 orr, .slice BA bl bc, .slice WA wl wc, .int .i64 ra, .int .i64 rn, .int .i64 co, .int .i64 ob] 30)) := (Below.refl _ _).alloc (Nat.le_refl _) _
       have h0a := h0.below hka h0.lt
       have h1a := h1.below hka h1.lt
       have HBa : Hid (Below w.heap.size w (w5.alloc (.cells #[.int .i64 fn, .int .i64 at_, .int .i64 nn, .int .u16 v, .int .u16 an, .int .u16 orr, .slice BA bl bc, .slice WA wl wc, .int .i64 ra, .int .i64 rn, .int .i64 co, .int .i64 ob] 30))) := HB5.out.trans (hka.mono HB5.out.size)
       have hz5 : w.heap.size + 2 ≤ w5.heap.size := h1.lt
       obtain ⟨hp0, hp1, hp2, hp3, hp4, hp5, hp6, hp7, hp8, hp9, hp10, hp11⟩ := cells12 h0a
       obtain ⟨hq0, hq1, hq2, hq3, hq4, hq5, hq6, hq7, hq8, hq9, hq10, hq11⟩ := cells12 h1a
       obtain ⟨hg0, hg1, hg2, hg3, hg4, hg5, hg6, hg7, hg8, hg9, hg10, hg11⟩ := frozen12 h0a
       have H0a := Lib.hid h0a
       clear h0 h1 h0a h1a hka hb5))
  obtain ⟨X, hX⟩ : ∃ X, w5.alloc (.cells #[.int .i64 fn, .int .i64 at_, .int .i64 nn, .int .u16 v, .int .u16 an, .int .u16 orr, .slice BA bl bc, .slice WA wl wc, .int .i64 ra, .int .i64 rn, .int .i64 co, .int .i64 ob] 30) = X := ⟨_, rfl⟩
  have hx0 : WholeV X w.heap.size 30 [.int .i64 0, .int .i64 0, .int .i64 0, .int .u16 0, .int .u16 0, .int .u16 0, .slice none 0 0, .slice none 0 0, .int .i64 0, .int .i64 0, .int .i64 0, .int .i64 0] := by rw [← hX]; exact H0a.out
  have hxb : Below w.heap.size w X := by rw [← hX]; exact HBa.out
  rw [hX]
  obtain ⟨w9, hw9, hwh, hbb⟩ := set12 hx0 hxb (.int .i64 43) (.int .i64 0) (.int .i64 0) (.int .u16 0) (.int .u16 0) (.int .u16 0) (.slice none 0 0) (.slice none 0 0) (.int .i64 0) (.int .i64 0) (.int .i64 0) (.int .i64 0) rfl
  rw [hw9]
  obtain ⟨he0, he1, he2, he3, he4, he5, he6, he7, he8, he9, he10, he11⟩ := cells12 hwh
  exact bodyPost_ret (v := .tuple #[.agg #[.int .i64 43, .int .i64 0, .int .i64 0, .int .u16 0, .int .u16 0, .int .u16 0, .slice none 0 0, .slice none 0 0, .int .i64 0, .int .i64 0, .int .i64 0, .int .i64 0], .int .i64 3]) (by simp [results, Try.results12, go_sem, he0, he1, he2, he3, he4, he5, he6, he7, he8, he9, he10, he11]) rfl ⟨rfl, hbb⟩

set_option maxHeartbeats 1000000 in
theorem rparse_ok (A : Option Addr) (n c : Nat) (zs : List Int) (f : Int) (w : World) (hr : Row .u8 w w.heap.size A n zs) (hx : Bytes8 zs) (hn : n ≤ 253) (h1 : 1 ≤ n) (h0 : zs.getD 0 0 = f) (hk : kKnown f = true) (hf43 : ¬ f = 43)
    (fn at_ nn v an orr : Int) (bl wl : Nat) (ra rn co ob : Int) (bs : List Bool) (ws : List Int)
    (hf : ∀ W, Row .u8 W W.heap.size A n zs → Calls Try.prog 25 #[.slice A n c] W (FieldsYes fn at_ nn v an orr bl wl ra rn co ob bs ws W)) :
    Calls Try.prog 12 #[.slice A n c] w (ParsedYes fn at_ nn v an orr bl wl ra rn co ob bs ws w) := by
  have HFD := Lib.hid hf
  clear hf
  have HKn := Lib.hid hk
  clear hk
  obtain ⟨b, off, rfl, hb, hcell⟩ := hr.2 (by omega)
  have hbq := hx.at_ 0
  change 0 ≤ zs.getD 0 0 ∧ zs.getD 0 0 ≤ 255 at hbq
  rw [h0] at hbq
  have f0 := hbq.1
  have f1 := hbq.2
  have hc0 : (w.alloc (.cells #[.int .i64 0, .int .i64 0, .int .i64 0, .int .u16 0, .int .u16 0, .int .u16 0, .slice none 0 0, .slice none 0 0, .int .i64 0, .int .i64 0, .int .i64 0, .int .i64 0] 30)).cell? ⟨b, off, none⟩ = some (.int .u8 f) := by
    rw [World.cell?_alloc_lt w _ ⟨b, off, none⟩ hb]
    have := hcell 0 (by omega)
    rw [Nat.add_zero, h0] at this
    exact this
  have hn0 : (0 : Int) < (n : Int) := by omega
  have hn1 : ¬ (n : Int) = 0 := by omega
  have hn2 : ¬ (253 : Int) < (n : Int) := by omega
  have hk2 : Below w.heap.size w ((w.alloc (.cells #[.int .i64 0, .int .i64 0, .int .i64 0, .int .u16 0, .int .u16 0, .int .u16 0, .slice none 0 0, .slice none 0 0, .int .i64 0, .int .i64 0, .int .i64 0, .int .i64 0] 30)).alloc (.cells #[.int .i64 f, .int .i64 0, .int .i64 0, .int .u16 0, .int .u16 0, .int .u16 0, .slice none 0 0, .slice none 0 0, .int .i64 0, .int .i64 0, .int .i64 0, .int .i64 0] 30)) := ((Below.refl _ _).alloc (Nat.le_refl _) _).alloc (by simp) _
  have HR := Lib.hid ((hr.below hk2).more hk2.size)
  have HX := Lib.hid hx
  have HK2 := Lib.hid hk2
  have HG1 : Hid (WholeV ((w.alloc (.cells #[.int .i64 0, .int .i64 0, .int .i64 0, .int .u16 0, .int .u16 0, .int .u16 0, .slice none 0 0, .slice none 0 0, .int .i64 0, .int .i64 0, .int .i64 0, .int .i64 0] 30)).alloc (.cells #[.int .i64 f, .int .i64 0, .int .i64 0, .int .u16 0, .int .u16 0, .int .u16 0, .slice none 0 0, .slice none 0 0, .int .i64 0, .int .i64 0, .int .i64 0, .int .i64 0] 30)) (w.heap.size + 1) 30 [.int .i64 f, .int .i64 0, .int .i64 0, .int .u16 0, .int .u16 0, .int .u16 0, .slice none 0 0, .slice none 0 0, .int .i64 0, .int .i64 0, .int .i64 0, .int .i64 0]) := by
    have h := heap_alloc_new (w.alloc (.cells #[.int .i64 0, .int .i64 0, .int .i64 0, .int .u16 0, .int .u16 0, .int .u16 0, .slice none 0 0, .slice none 0 0, .int .i64 0, .int .i64 0, .int .i64 0, .int .i64 0] 30)) (.cells #[.int .i64 f, .int .i64 0, .int .i64 0, .int .u16 0, .int .u16 0, .int .u16 0, .slice none 0 0, .slice none 0 0, .int .i64 0, .int .i64 0, .int .i64 0, .int .i64 0] 30)
    rwa [show (w.alloc (.cells #[.int .i64 0, .int .i64 0, .int .i64 0, .int .u16 0, .int .u16 0, .int .u16 0, .slice none 0 0, .slice none 0 0, .int .i64 0, .int .i64 0, .int .i64 0, .int .i64 0] 30)).heap.size = w.heap.size + 1 by simp] at h
  have HG0 : Hid (WholeV ((w.alloc (.cells #[.int .i64 0, .int .i64 0, .int .i64 0, .int .u16 0, .int .u16 0, .int .u16 0, .slice none 0 0, .slice none 0 0, .int .i64 0, .int .i64 0, .int .i64 0, .int .i64 0] 30)).alloc (.cells #[.int .i64 f, .int .i64 0, .int .i64 0, .int .u16 0, .int .u16 0, .int .u16 0, .slice none 0 0, .slice none 0 0, .int .i64 0, .int .i64 0, .int .i64 0, .int .i64 0] 30)) w.heap.size 30 [.int .i64 0, .int .i64 0, .int .i64 0, .int .u16 0, .int .u16 0, .int .u16 0, .slice none 0 0, .slice none 0 0, .int .i64 0, .int .i64 0, .int .i64 0, .int .i64 0]) := by
    have h : WholeV (w.alloc (.cells #[.int .i64 0, .int .i64 0, .int .i64 0, .int .u16 0, .int .u16 0, .int .u16 0, .slice none 0 0, .slice none 0 0, .int .i64 0, .int .i64 0, .int .i64 0, .int .i64 0] 30)) w.heap.size 30 [.int .i64 0, .int .i64 0, .int .i64 0, .int .u16 0, .int .u16 0, .int .u16 0, .slice none 0 0, .slice none 0 0, .int .i64 0, .int .i64 0, .int .i64 0, .int .i64 0] := heap_alloc_new w _
    exact h.below ((Below.refl _ _).alloc (Nat.le_refl _) _) (by simp)
  clear hr hx hcell hbq hk2 h0
  go_enter Try.func12, Try.ntmps12
  go_wp2_with (first
    | (go_at_call 24; refine (known_lit f true _ HKn.out).mono ?_; rintro e w' ⟨rfl, rfl⟩)
    | (go_at_call 25
       refine (HFD.out _ HR.out).mono ?_
       rintro e w5 ⟨BA, WA, bc, wc, rfl, hob, how, hb5⟩
       have h0 := HG0.out.below hb5 HG0.out.lt
       have h1 := HG1.out.below hb5 HG1.out.lt
       have HB5 : Hid (Below w.heap.size w w5) := HK2.out.trans (hb5.mono HK2.out.size)
       have hka : Below w5.heap.size w5 (w5.alloc (.cells #[.int .i64 fn, .int .i64 at_, .int .i64 nn, .int .u16 v, .int .u16 an, .int .u16 orr, .slice BA bl bc, .slice WA wl wc, .int .i64 ra, .int .i64 rn, .int .i64 co, .int .i64 ob] 30)) := (Below.refl _ _).alloc (Nat.le_refl _) _
       have h0a := h0.below hka h0.lt
       have h1a := h1.below hka h1.lt
       have HBa : Hid (Below w.heap.size w (w5.alloc (.cells #[.int .i64 fn, .int .i64 at_, .int .i64 nn, .int .u16 v, .int .u16 an, .int .u16 orr, .slice BA bl bc, .slice WA wl wc, .int .i64 ra, .int .i64 rn, .int .i64 co, .int .i64 ob] 30))) := HB5.out.trans (hka.mono HB5.out.size)
       have hz5 : w.heap.size + 2 ≤ w5.heap.size := h1.lt
       obtain ⟨hp0, hp1, hp2, hp3, hp4, hp5, hp6, hp7, hp8, hp9, hp10, hp11⟩ := cells12 h0a
       obtain ⟨hq0, hq1, hq2, hq3, hq4, hq5, hq6, hq7, hq8, hq9, hq10, hq11⟩ := cells12 h1a
       obtain ⟨hg0, hg1, hg2, hg3, hg4, hg5, hg6, hg7, hg8, hg9, hg10, hg11⟩ := frozen12 h0a
       have H0a := Lib.hid h0a
       have HOB := Lib.hid (own_keep (own_mono hob (show w.heap.size + 2 ≤ _ by simp)) hka)
       have HOW := Lib.hid (own_keep (own_mono how (show w.heap.size + 2 ≤ _ by simp)) hka)
       clear h0 h1 h0a h1a hka hb5 hob how))
  obtain ⟨X, hX⟩ : ∃ X, w5.alloc (.cells #[.int .i64 fn, .int .i64 at_, .int .i64 nn, .int .u16 v, .int .u16 an, .int .u16 orr, .slice BA bl bc, .slice WA wl wc, .int .i64 ra, .int .i64 rn, .int .i64 co, .int .i64 ob] 30) = X := ⟨_, rfl⟩
  have hx0 : WholeV X w.heap.size 30 [.int .i64 0, .int .i64 0, .int .i64 0, .int .u16 0, .int .u16 0, .int .u16 0, .slice none 0 0, .slice none 0 0, .int .i64 0, .int .i64 0, .int .i64 0, .int .i64 0] := by rw [← hX]; exact H0a.out
  have hxb : Below w.heap.size w X := by rw [← hX]; exact HBa.out
  have hob : X.ownsRow (w.heap.size + 2) 4 1 (.slice BA bl bc) bl (bs.map Value.bool) := by rw [← hX]; exact HOB.out
  have how : X.ownsRow (w.heap.size + 2) 26 1 (.slice WA wl wc) wl (ws.map (Value.int .u16)) := by rw [← hX]; exact HOW.out
  rw [hX]
  obtain ⟨w9, hw9, hwh, hbb⟩ := set12 hx0 hxb (.int .i64 fn) (.int .i64 at_) (.int .i64 nn) (.int .u16 v) (.int .u16 an) (.int .u16 orr) (.slice BA bl bc) (.slice WA wl wc) (.int .i64 ra) (.int .i64 rn) (.int .i64 co) (.int .i64 ob) rfl
  have hob9 : w9.ownsRow (w.heap.size + 2) 4 1 (.slice BA bl bc) bl (bs.map Value.bool) := by rw [← hw9]; exact (own_far (own_far (own_far (own_far (own_far (own_far (own_far (own_far (own_far (own_far (own_far (own_far hob ⟨w.heap.size, 0, none⟩ (Nat.lt_succ_of_lt (Nat.lt_succ_self _)) (.int .i64 fn)) ⟨w.heap.size, 1, none⟩ (Nat.lt_succ_of_lt (Nat.lt_succ_self _)) (.int .i64 at_)) ⟨w.heap.size, 2, none⟩ (Nat.lt_succ_of_lt (Nat.lt_succ_self _)) (.int .i64 nn)) ⟨w.heap.size, 3, none⟩ (Nat.lt_succ_of_lt (Nat.lt_succ_self _)) (.int .u16 v)) ⟨w.heap.size, 4, none⟩ (Nat.lt_succ_of_lt (Nat.lt_succ_self _)) (.int .u16 an)) ⟨w.heap.size, 5, none⟩ (Nat.lt_succ_of_lt (Nat.lt_succ_self _)) (.int .u16 orr)) ⟨w.heap.size, 6, none⟩ (Nat.lt_succ_of_lt (Nat.lt_succ_self _)) (.slice BA bl bc)) ⟨w.heap.size, 7, none⟩ (Nat.lt_succ_of_lt (Nat.lt_succ_self _)) (.slice WA wl wc)) ⟨w.heap.size, 8, none⟩ (Nat.lt_succ_of_lt (Nat.lt_succ_self _)) (.int .i64 ra)) ⟨w.heap.size, 9, none⟩ (Nat.lt_succ_of_lt (Nat.lt_succ_self _)) (.int .i64 rn)) ⟨w.heap.size, 10, none⟩ (Nat.lt_succ_of_lt (Nat.lt_succ_self _)) (.int .i64 co)) ⟨w.heap.size, 11, none⟩ (Nat.lt_succ_of_lt (Nat.lt_succ_self _)) (.int .i64 ob))
  have how9 : w9.ownsRow (w.heap.size + 2) 26 1 (.slice WA wl wc) wl (ws.map (Value.int .u16)) := by rw [← hw9]; exact (own_far (own_far (own_far (own_far (own_far (own_far (own_far (own_far (own_far (own_far (own_far (own_far how ⟨w.heap.size, 0, none⟩ (Nat.lt_succ_of_lt (Nat.lt_succ_self _)) (.int .i64 fn)) ⟨w.heap.size, 1, none⟩ (Nat.lt_succ_of_lt (Nat.lt_succ_self _)) (.int .i64 at_)) ⟨w.heap.size, 2, none⟩ (Nat.lt_succ_of_lt (Nat.lt_succ_self _)) (.int .i64 nn)) ⟨w.heap.size, 3, none⟩ (Nat.lt_succ_of_lt (Nat.lt_succ_self _)) (.int .u16 v)) ⟨w.heap.size, 4, none⟩ (Nat.lt_succ_of_lt (Nat.lt_succ_self _)) (.int .u16 an)) ⟨w.heap.size, 5, none⟩ (Nat.lt_succ_of_lt (Nat.lt_succ_self _)) (.int .u16 orr)) ⟨w.heap.size, 6, none⟩ (Nat.lt_succ_of_lt (Nat.lt_succ_self _)) (.slice BA bl bc)) ⟨w.heap.size, 7, none⟩ (Nat.lt_succ_of_lt (Nat.lt_succ_self _)) (.slice WA wl wc)) ⟨w.heap.size, 8, none⟩ (Nat.lt_succ_of_lt (Nat.lt_succ_self _)) (.int .i64 ra)) ⟨w.heap.size, 9, none⟩ (Nat.lt_succ_of_lt (Nat.lt_succ_self _)) (.int .i64 rn)) ⟨w.heap.size, 10, none⟩ (Nat.lt_succ_of_lt (Nat.lt_succ_self _)) (.int .i64 co)) ⟨w.heap.size, 11, none⟩ (Nat.lt_succ_of_lt (Nat.lt_succ_self _)) (.int .i64 ob))
  rw [hw9]
  obtain ⟨he0, he1, he2, he3, he4, he5, he6, he7, he8, he9, he10, he11⟩ := cells12 hwh
  exact bodyPost_ret (v := .tuple #[.agg #[.int .i64 fn, .int .i64 at_, .int .i64 nn, .int .u16 v, .int .u16 an, .int .u16 orr, .slice BA bl bc, .slice WA wl wc, .int .i64 ra, .int .i64 rn, .int .i64 co, .int .i64 ob], .int .i64 0]) (by simp [results, Try.results12, go_sem, he0, he1, he2, he3, he4, he5, he6, he7, he8, he9, he10, he11]) rfl ⟨_, _, _, _, rfl, own_mono hob9 (by omega), own_mono how9 (by omega), hbb⟩

set_option maxHeartbeats 1000000 in
theorem rparse_ok_43 (A : Option Addr) (n c : Nat) (zs : List Int) (w : World) (hr : Row .u8 w w.heap.size A n zs) (hx : Bytes8 zs) (hn : n ≤ 253) (h1 : 1 ≤ n) (h0 : zs.getD 0 0 = 43) (hn' : 2 ≤ n) (hs : zs.getD 1 0 = 14)
    (fn at_ nn v an orr : Int) (bl wl : Nat) (ra rn co ob : Int) (bs : List Bool) (ws : List Int)
    (hf : ∀ W, Row .u8 W W.heap.size A n zs → Calls Try.prog 25 #[.slice A n c] W (FieldsYes fn at_ nn v an orr bl wl ra rn co ob bs ws W)) :
    Calls Try.prog 12 #[.slice A n c] w (ParsedYes fn at_ nn v an orr bl wl ra rn co ob bs ws w) := by
  have HFD := Lib.hid hf
  clear hf
  have HKn : Hid (kKnown 43 = true) := rfl
  have hn3 : ¬ (n : Int) < 2 := by omega
  have hn4 : (1 : Int) < (n : Int) := by omega
  obtain ⟨b, off, rfl, hb, hcell⟩ := hr.2 (by omega)
  have hbq := hx.at_ 0
  change 0 ≤ zs.getD 0 0 ∧ zs.getD 0 0 ≤ 255 at hbq
  rw [h0] at hbq
  have f0 := hbq.1
  have f1 := hbq.2
  have hc0 : (w.alloc (.cells #[.int .i64 0, .int .i64 0, .int .i64 0, .int .u16 0, .int .u16 0, .int .u16 0, .slice none 0 0, .slice none 0 0, .int .i64 0, .int .i64 0, .int .i64 0, .int .i64 0] 30)).cell? ⟨b, off, none⟩ = some (.int .u8 43) := by
    rw [World.cell?_alloc_lt w _ ⟨b, off, none⟩ hb]
    have := hcell 0 (by omega)
    rw [Nat.add_zero, h0] at this
    exact this
  have hn0 : (0 : Int) < (n : Int) := by omega
  have hn1 : ¬ (n : Int) = 0 := by omega
  have hn2 : ¬ (253 : Int) < (n : Int) := by omega
  have hk2 : Below w.heap.size w ((w.alloc (.cells #[.int .i64 0, .int .i64 0, .int .i64 0, .int .u16 0, .int .u16 0, .int .u16 0, .slice none 0 0, .slice none 0 0, .int .i64 0, .int .i64 0, .int .i64 0, .int .i64 0] 30)).alloc (.cells #[.int .i64 43, .int .i64 0, .int .i64 0, .int .u16 0, .int .u16 0, .int .u16 0, .slice none 0 0, .slice none 0 0, .int .i64 0, .int .i64 0, .int .i64 0, .int .i64 0] 30)) := ((Below.refl _ _).alloc (Nat.le_refl _) _).alloc (by simp) _
  have HR := Lib.hid ((hr.below hk2).more hk2.size)
  have HX := Lib.hid hx
  have HK2 := Lib.hid hk2
  have HG1 : Hid (WholeV ((w.alloc (.cells #[.int .i64 0, .int .i64 0, .int .i64 0, .int .u16 0, .int .u16 0, .int .u16 0, .slice none 0 0, .slice none 0 0, .int .i64 0, .int .i64 0, .int .i64 0, .int .i64 0] 30)).alloc (.cells #[.int .i64 43, .int .i64 0, .int .i64 0, .int .u16 0, .int .u16 0, .int .u16 0, .slice none 0 0, .slice none 0 0, .int .i64 0, .int .i64 0, .int .i64 0, .int .i64 0] 30)) (w.heap.size + 1) 30 [.int .i64 43, .int .i64 0, .int .i64 0, .int .u16 0, .int .u16 0, .int .u16 0, .slice none 0 0, .slice none 0 0, .int .i64 0, .int .i64 0, .int .i64 0, .int .i64 0]) := by
    have h := heap_alloc_new (w.alloc (.cells #[.int .i64 0, .int .i64 0, .int .i64 0, .int .u16 0, .int .u16 0, .int .u16 0, .slice none 0 0, .slice none 0 0, .int .i64 0, .int .i64 0, .int .i64 0, .int .i64 0] 30)) (.cells #[.int .i64 43, .int .i64 0, .int .i64 0, .int .u16 0, .int .u16 0, .int .u16 0, .slice none 0 0, .slice none 0 0, .int .i64 0, .int .i64 0, .int .i64 0, .int .i64 0] 30)
    rwa [show (w.alloc (.cells #[.int .i64 0, .int .i64 0, .int .i64 0, .int .u16 0, .int .u16 0, .int .u16 0, .slice none 0 0, .slice none 0 0, .int .i64 0, .int .i64 0, .int .i64 0, .int .i64 0] 30)).heap.size = w.heap.size + 1 by simp] at h
  have HG0 : Hid (WholeV ((w.alloc (.cells #[.int .i64 0, .int .i64 0, .int .i64 0, .int .u16 0, .int .u16 0, .int .u16 0, .slice none 0 0, .slice none 0 0, .int .i64 0, .int .i64 0, .int .i64 0, .int .i64 0] 30)).alloc (.cells #[.int .i64 43, .int .i64 0, .int .i64 0, .int .u16 0, .int .u16 0, .int .u16 0, .slice none 0 0, .slice none 0 0, .int .i64 0, .int .i64 0, .int .i64 0, .int .i64 0] 30)) w.heap.size 30 [.int .i64 0, .int .i64 0, .int .i64 0, .int .u16 0, .int .u16 0, .int .u16 0, .slice none 0 0, .slice none 0 0, .int .i64 0, .int .i64 0, .int .i64 0, .int .i64 0]) := by
    have h : WholeV (w.alloc (.cells #[.int .i64 0, .int .i64 0, .int .i64 0, .int .u16 0, .int .u16 0, .int .u16 0, .slice none 0 0, .slice none 0 0, .int .i64 0, .int .i64 0, .int .i64 0, .int .i64 0] 30)) w.heap.size 30 [.int .i64 0, .int .i64 0, .int .i64 0, .int .u16 0, .int .u16 0, .int .u16 0, .slice none 0 0, .slice none 0 0, .int .i64 0, .int .i64 0, .int .i64 0, .int .i64 0] := heap_alloc_new w _
    exact h.below ((Below.refl _ _).alloc (Nat.le_refl _) _) (by simp)
  have hc1 : ((w.alloc (.cells #[.int .i64 0, .int .i64 0, .int .i64 0, .int .u16 0, .int .u16 0, .int .u16 0, .slice none 0 0, .slice none 0 0, .int .i64 0, .int .i64 0, .int .i64 0, .int .i64 0] 30)).alloc (.cells #[.int .i64 43, .int .i64 0, .int .i64 0, .int .u16 0, .int .u16 0, .int .u16 0, .slice none 0 0, .slice none 0 0, .int .i64 0, .int .i64 0, .int .i64 0, .int .i64 0] 30)).cell? ⟨b, off + 1, none⟩ = some (.int .u8 14) := by rw [hk2.cell hb, hcell 1 (by omega), hs]
  clear hs
  clear hr hx hcell hbq hk2 h0
  go_enter Try.func12, Try.ntmps12
  go_wp2_with (first
    | (go_at_call 24; refine (known_lit 43 true _ HKn.out).mono ?_; rintro e w' ⟨rfl, rfl⟩)
    | (go_at_call 25
       refine (HFD.out _ HR.out).mono ?_
       rintro e w5 ⟨BA, WA, bc, wc, rfl, hob, how, hb5⟩
       have h0 := HG0.out.below hb5 HG0.out.lt
       have h1 := HG1.out.below hb5 HG1.out.lt
       have HB5 : Hid (Below w.heap.size w w5) := HK2.out.trans (hb5.mono HK2.out.size)
       have hka : Below w5.heap.size w5 (w5.alloc (.cells #[.int .i64 fn, .int .i64 at_, .int .i64 nn, .int .u16 v, .int .u16 an, .int .u16 orr, .slice BA bl bc, .slice WA wl wc, .int .i64 ra, .int .i64 rn, .int .i64 co, .int .i64 ob] 30)) := (Below.refl _ _).alloc (Nat.le_refl _) _
       have h0a := h0.below hka h0.lt
       have h1a := h1.below hka h1.lt
       have HBa : Hid (Below w.heap.size w (w5.alloc (.cells #[.int .i64 fn, .int .i64 at_, .int .i64 nn, .int .u16 v, .int .u16 an, .int .u16 orr, .slice BA bl bc, .slice WA wl wc, .int .i64 ra, .int .i64 rn, .int .i64 co, .int .i64 ob] 30))) := HB5.out.trans (hka.mono HB5.out.size)
       have hz5 : w.heap.size + 2 ≤ w5.heap.size := h1.lt
       obtain ⟨hp0, hp1, hp2, hp3, hp4, hp5, hp6, hp7, hp8, hp9, hp10, hp11⟩ := cells12 h0a
       obtain ⟨hq0, hq1, hq2, hq3, hq4, hq5, hq6, hq7, hq8, hq9, hq10, hq11⟩ := cells12 h1a
       obtain ⟨hg0, hg1, hg2, hg3, hg4, hg5, hg6, hg7, hg8, hg9, hg10, hg11⟩ := frozen12 h0a
       have H0a := Lib.hid h0a
       have HOB := Lib.hid (own_keep (own_mono hob (show w.heap.size + 2 ≤ _ by simp)) hka)
       have HOW := Lib.hid (own_keep (own_mono how (show w.heap.size + 2 ≤ _ by simp)) hka)
       clear h0 h1 h0a h1a hka hb5 hob how))
  obtain ⟨X, hX⟩ : ∃ X, w5.alloc (.cells #[.int .i64 fn, .int .i64 at_, .int .i64 nn, .int .u16 v, .int .u16 an, .int .u16 orr, .slice BA bl bc, .slice WA wl wc, .int .i64 ra, .int .i64 rn, .int .i64 co, .int .i64 ob] 30) = X := ⟨_, rfl⟩
  have hx0 : WholeV X w.heap.size 30 [.int .i64 0, .int .i64 0, .int .i64 0, .int .u16 0, .int .u16 0, .int .u16 0, .slice none 0 0, .slice none 0 0, .int .i64 0, .int .i64 0, .int .i64 0, .int .i64 0] := by rw [← hX]; exact H0a.out
  have hxb : Below w.heap.size w X := by rw [← hX]; exact HBa.out
  have hob : X.ownsRow (w.heap.size + 2) 4 1 (.slice BA bl bc) bl (bs.map Value.bool) := by rw [← hX]; exact HOB.out
  have how : X.ownsRow (w.heap.size + 2) 26 1 (.slice WA wl wc) wl (ws.map (Value.int .u16)) := by rw [← hX]; exact HOW.out
  rw [hX]
  obtain ⟨w9, hw9, hwh, hbb⟩ := set12 hx0 hxb (.int .i64 fn) (.int .i64 at_) (.int .i64 nn) (.int .u16 v) (.int .u16 an) (.int .u16 orr) (.slice BA bl bc) (.slice WA wl wc) (.int .i64 ra) (.int .i64 rn) (.int .i64 co) (.int .i64 ob) rfl
  have hob9 : w9.ownsRow (w.heap.size + 2) 4 1 (.slice BA bl bc) bl (bs.map Value.bool) := by rw [← hw9]; exact (own_far (own_far (own_far (own_far (own_far (own_far (own_far (own_far (own_far (own_far (own_far (own_far hob ⟨w.heap.size, 0, none⟩ (Nat.lt_succ_of_lt (Nat.lt_succ_self _)) (.int .i64 fn)) ⟨w.heap.size, 1, none⟩ (Nat.lt_succ_of_lt (Nat.lt_succ_self _)) (.int .i64 at_)) ⟨w.heap.size, 2, none⟩ (Nat.lt_succ_of_lt (Nat.lt_succ_self _)) (.int .i64 nn)) ⟨w.heap.size, 3, none⟩ (Nat.lt_succ_of_lt (Nat.lt_succ_self _)) (.int .u16 v)) ⟨w.heap.size, 4, none⟩ (Nat.lt_succ_of_lt (Nat.lt_succ_self _)) (.int .u16 an)) ⟨w.heap.size, 5, none⟩ (Nat.lt_succ_of_lt (Nat.lt_succ_self _)) (.int .u16 orr)) ⟨w.heap.size, 6, none⟩ (Nat.lt_succ_of_lt (Nat.lt_succ_self _)) (.slice BA bl bc)) ⟨w.heap.size, 7, none⟩ (Nat.lt_succ_of_lt (Nat.lt_succ_self _)) (.slice WA wl wc)) ⟨w.heap.size, 8, none⟩ (Nat.lt_succ_of_lt (Nat.lt_succ_self _)) (.int .i64 ra)) ⟨w.heap.size, 9, none⟩ (Nat.lt_succ_of_lt (Nat.lt_succ_self _)) (.int .i64 rn)) ⟨w.heap.size, 10, none⟩ (Nat.lt_succ_of_lt (Nat.lt_succ_self _)) (.int .i64 co)) ⟨w.heap.size, 11, none⟩ (Nat.lt_succ_of_lt (Nat.lt_succ_self _)) (.int .i64 ob))
  have how9 : w9.ownsRow (w.heap.size + 2) 26 1 (.slice WA wl wc) wl (ws.map (Value.int .u16)) := by rw [← hw9]; exact (own_far (own_far (own_far (own_far (own_far (own_far (own_far (own_far (own_far (own_far (own_far (own_far how ⟨w.heap.size, 0, none⟩ (Nat.lt_succ_of_lt (Nat.lt_succ_self _)) (.int .i64 fn)) ⟨w.heap.size, 1, none⟩ (Nat.lt_succ_of_lt (Nat.lt_succ_self _)) (.int .i64 at_)) ⟨w.heap.size, 2, none⟩ (Nat.lt_succ_of_lt (Nat.lt_succ_self _)) (.int .i64 nn)) ⟨w.heap.size, 3, none⟩ (Nat.lt_succ_of_lt (Nat.lt_succ_self _)) (.int .u16 v)) ⟨w.heap.size, 4, none⟩ (Nat.lt_succ_of_lt (Nat.lt_succ_self _)) (.int .u16 an)) ⟨w.heap.size, 5, none⟩ (Nat.lt_succ_of_lt (Nat.lt_succ_self _)) (.int .u16 orr)) ⟨w.heap.size, 6, none⟩ (Nat.lt_succ_of_lt (Nat.lt_succ_self _)) (.slice BA bl bc)) ⟨w.heap.size, 7, none⟩ (Nat.lt_succ_of_lt (Nat.lt_succ_self _)) (.slice WA wl wc)) ⟨w.heap.size, 8, none⟩ (Nat.lt_succ_of_lt (Nat.lt_succ_self _)) (.int .i64 ra)) ⟨w.heap.size, 9, none⟩ (Nat.lt_succ_of_lt (Nat.lt_succ_self _)) (.int .i64 rn)) ⟨w.heap.size, 10, none⟩ (Nat.lt_succ_of_lt (Nat.lt_succ_self _)) (.int .i64 co)) ⟨w.heap.size, 11, none⟩ (Nat.lt_succ_of_lt (Nat.lt_succ_self _)) (.int .i64 ob))
  rw [hw9]
  obtain ⟨he0, he1, he2, he3, he4, he5, he6, he7, he8, he9, he10, he11⟩ := cells12 hwh
  exact bodyPost_ret (v := .tuple #[.agg #[.int .i64 fn, .int .i64 at_, .int .i64 nn, .int .u16 v, .int .u16 an, .int .u16 orr, .slice BA bl bc, .slice WA wl wc, .int .i64 ra, .int .i64 rn, .int .i64 co, .int .i64 ob], .int .i64 0]) (by simp [results, Try.results12, go_sem, he0, he1, he2, he3, he4, he5, he6, he7, he8, he9, he10, he11]) rfl ⟨_, _, _, _, rfl, own_mono hob9 (by omega), own_mono how9 (by omega), hbb⟩

end Go.Proofs.Ytebpilfogdenjaa

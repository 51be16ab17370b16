/- Joined: RParse RParse2 PLast. -/
import Derived.Test.YtijfeffjjcbijaaPParse
import Derived.Test.YtijfeffjjcbijaaAskSet
import Derived.Test.YtijfeffjjcbijaaAskList2
import Derived.Test.YtijfeffjjcbijaaJAskBack4
import Derived.Test.YtijfeffjjcbijaaAskRead
import Derived.Test.YtijfeffjjcbijaaJAskBack1
import Derived.Test.YtijfeffjjcbijaaJAskBack2
import Derived.Test.YtijfeffjjcbijaaAskSame
namespace Go.Proofs.Ytijfeffjjcbijaa
open Go.ChangeShapes Go.WideShapes Go.ChangeAt Go.RowKit
set_option linter.unusedVariables false
set_option linter.unusedSimpArgs false

/-- Something came back that is no request. -/
def ReadNo (w : World) (e : Ending) (w' : World) : Prop := FieldsNo w e w'

theorem rparse_edge (A : Option Addr) (n c : Nat) (w : World) (h : n = 0 ∨ 253 < n) :
    Calls Try.prog 24 #[.slice A n c] w (ParsedNo 0 1 w) := by
  rcases h with rfl | h
  · go_enter Try.func24, Try.ntmps24
    go_wp2
    exact bodyPost_ret (v := .tuple #[.agg #[.int .i64 0, .int .i64 0, .int .i64 0, .int .u16 0, .int .u16 0, .int .u16 0, .slice none 0 0, .slice none 0 0, .int .i64 0, .int .i64 0, .int .i64 0, .int .i64 0], .int .i64 1]) (by simp [results, Try.results24, go_sem]) rfl ⟨rfl, (Below.refl _ _).alloc (Nat.le_refl _) _⟩
  · have h1 : (253 : Int) < (n : Int) := by omega
    have h0 : ¬ (n : Int) = 0 := by omega
    go_enter Try.func24, Try.ntmps24
    go_wp2
    exact bodyPost_ret (v := .tuple #[.agg #[.int .i64 0, .int .i64 0, .int .i64 0, .int .u16 0, .int .u16 0, .int .u16 0, .slice none 0 0, .slice none 0 0, .int .i64 0, .int .i64 0, .int .i64 0, .int .i64 0], .int .i64 1]) (by simp [results, Try.results24, go_sem]) rfl ⟨rfl, (Below.refl _ _).alloc (Nat.le_refl _) _⟩

set_option maxHeartbeats 1000000 in
theorem rparse_unknown (A : Option Addr) (n c : Nat) (zs : List Int) (f : Int) (w : World) (hr : Row .u8 w w.heap.size A n zs) (hx : Bytes8 zs) (hn : n ≤ 253) (h1 : 1 ≤ n) (h0 : zs.getD 0 0 = f) (hk : kKnown f = false) :
    Calls Try.prog 24 #[.slice A n c] w (ParsedNo f 1 w) := by
  have HKn := Lib.hid hk
  clear hk
  obtain ⟨b, off, rfl, hb, hcell⟩ := hr.2 (by omega)
  have hbq := hx.at_ 0
  change 0 ≤ zs.getD 0 0 ∧ zs.getD 0 0 ≤ 255 at hbq
  rw [h0] at hbq
  have f0 := hbq.1
  have f1 := hbq.2
  have hc0 : (w.alloc (.cells #[.int .i64 0, .int .i64 0, .int .i64 0, .int .u16 0, .int .u16 0, .int .u16 0, .slice none 0 0, .slice none 0 0, .int .i64 0, .int .i64 0, .int .i64 0, .int .i64 0] 26)).cell? ⟨b, off, none⟩ = some (.int .u8 f) := by
    rw [World.cell?_alloc_lt w _ ⟨b, off, none⟩ hb]
    have := hcell 0 (by omega)
    rw [Nat.add_zero, h0] at this
    exact this
  have hn0 : (0 : Int) < (n : Int) := by omega
  have hn1 : ¬ (n : Int) = 0 := by omega
  have hn2 : ¬ (253 : Int) < (n : Int) := by omega
  have hk2 : Below w.heap.size w ((w.alloc (.cells #[.int .i64 0, .int .i64 0, .int .i64 0, .int .u16 0, .int .u16 0, .int .u16 0, .slice none 0 0, .slice none 0 0, .int .i64 0, .int .i64 0, .int .i64 0, .int .i64 0] 26)).alloc (.cells #[.int .i64 f, .int .i64 0, .int .i64 0, .int .u16 0, .int .u16 0, .int .u16 0, .slice none 0 0, .slice none 0 0, .int .i64 0, .int .i64 0, .int .i64 0, .int .i64 0] 26)) := ((Below.refl _ _).alloc (Nat.le_refl _) _).alloc (by simp) _
  have HR := Lib.hid ((hr.below hk2).more hk2.size)
  have HX := Lib.hid hx
  have HK2 := Lib.hid hk2
  have HG1 : Hid (WholeV ((w.alloc (.cells #[.int .i64 0, .int .i64 0, .int .i64 0, .int .u16 0, .int .u16 0, .int .u16 0, .slice none 0 0, .slice none 0 0, .int .i64 0, .int .i64 0, .int .i64 0, .int .i64 0] 26)).alloc (.cells #[.int .i64 f, .int .i64 0, .int .i64 0, .int .u16 0, .int .u16 0, .int .u16 0, .slice none 0 0, .slice none 0 0, .int .i64 0, .int .i64 0, .int .i64 0, .int .i64 0] 26)) (w.heap.size + 1) 26 [.int .i64 f, .int .i64 0, .int .i64 0, .int .u16 0, .int .u16 0, .int .u16 0, .slice none 0 0, .slice none 0 0, .int .i64 0, .int .i64 0, .int .i64 0, .int .i64 0]) := by
    have h := heap_alloc_new (w.alloc (.cells #[.int .i64 0, .int .i64 0, .int .i64 0, .int .u16 0, .int .u16 0, .int .u16 0, .slice none 0 0, .slice none 0 0, .int .i64 0, .int .i64 0, .int .i64 0, .int .i64 0] 26)) (.cells #[.int .i64 f, .int .i64 0, .int .i64 0, .int .u16 0, .int .u16 0, .int .u16 0, .slice none 0 0, .slice none 0 0, .int .i64 0, .int .i64 0, .int .i64 0, .int .i64 0] 26)
    rwa [show (w.alloc (.cells #[.int .i64 0, .int .i64 0, .int .i64 0, .int .u16 0, .int .u16 0, .int .u16 0, .slice none 0 0, .slice none 0 0, .int .i64 0, .int .i64 0, .int .i64 0, .int .i64 0] 26)).heap.size = w.heap.size + 1 by simp] at h
  have HG0 : Hid (WholeV ((w.alloc (.cells #[.int .i64 0, .int .i64 0, .int .i64 0, .int .u16 0, .int .u16 0, .int .u16 0, .slice none 0 0, .slice none 0 0, .int .i64 0, .int .i64 0, .int .i64 0, .int .i64 0] 26)).alloc (.cells #[.int .i64 f, .int .i64 0, .int .i64 0, .int .u16 0, .int .u16 0, .int .u16 0, .slice none 0 0, .slice none 0 0, .int .i64 0, .int .i64 0, .int .i64 0, .int .i64 0] 26)) w.heap.size 26 [.int .i64 0, .int .i64 0, .int .i64 0, .int .u16 0, .int .u16 0, .int .u16 0, .slice none 0 0, .slice none 0 0, .int .i64 0, .int .i64 0, .int .i64 0, .int .i64 0]) := by
    have h : WholeV (w.alloc (.cells #[.int .i64 0, .int .i64 0, .int .i64 0, .int .u16 0, .int .u16 0, .int .u16 0, .slice none 0 0, .slice none 0 0, .int .i64 0, .int .i64 0, .int .i64 0, .int .i64 0] 26)) w.heap.size 26 [.int .i64 0, .int .i64 0, .int .i64 0, .int .u16 0, .int .u16 0, .int .u16 0, .slice none 0 0, .slice none 0 0, .int .i64 0, .int .i64 0, .int .i64 0, .int .i64 0] := heap_alloc_new w _
    exact h.below ((Below.refl _ _).alloc (Nat.le_refl _) _) (by simp)
  clear hr hx hcell hbq hk2 h0
  go_enter Try.func24, Try.ntmps24
  go_wp2_with (go_at_call 62; refine (known_lit f false _ HKn.out).mono ?_; rintro e w' ⟨rfl, rfl⟩)
  exact bodyPost_ret (v := .tuple #[.agg #[.int .i64 f, .int .i64 0, .int .i64 0, .int .u16 0, .int .u16 0, .int .u16 0, .slice none 0 0, .slice none 0 0, .int .i64 0, .int .i64 0, .int .i64 0, .int .i64 0], .int .i64 1]) (by simp [results, Try.results24, go_sem]) rfl ⟨rfl, ((Below.refl _ _).alloc (Nat.le_refl _) _).alloc (by simp) _⟩

set_option maxHeartbeats 1000000 in
theorem rparse_alone (A : Option Addr) (n c : Nat) (zs : List Int) (w : World) (hr : Row .u8 w w.heap.size A n zs) (hx : Bytes8 zs) (hn : n ≤ 253) (h1 : 1 ≤ n) (h0 : zs.getD 0 0 = 43) (hn' : n = 1) :
    Calls Try.prog 24 #[.slice A n c] w (ParsedNo 43 3 w) := by
  have HKn : Hid (kKnown 43 = true) := rfl
  have hn3 : (n : Int) < 2 := by omega
  obtain ⟨b, off, rfl, hb, hcell⟩ := hr.2 (by omega)
  have hbq := hx.at_ 0
  change 0 ≤ zs.getD 0 0 ∧ zs.getD 0 0 ≤ 255 at hbq
  rw [h0] at hbq
  have f0 := hbq.1
  have f1 := hbq.2
  have hc0 : (w.alloc (.cells #[.int .i64 0, .int .i64 0, .int .i64 0, .int .u16 0, .int .u16 0, .int .u16 0, .slice none 0 0, .slice none 0 0, .int .i64 0, .int .i64 0, .int .i64 0, .int .i64 0] 26)).cell? ⟨b, off, none⟩ = some (.int .u8 43) := by
    rw [World.cell?_alloc_lt w _ ⟨b, off, none⟩ hb]
    have := hcell 0 (by omega)
    rw [Nat.add_zero, h0] at this
    exact this
  have hn0 : (0 : Int) < (n : Int) := by omega
  have hn1 : ¬ (n : Int) = 0 := by omega
  have hn2 : ¬ (253 : Int) < (n : Int) := by omega
  have hk2 : Below w.heap.size w ((w.alloc (.cells #[.int .i64 0, .int .i64 0, .int .i64 0, .int .u16 0, .int .u16 0, .int .u16 0, .slice none 0 0, .slice none 0 0, .int .i64 0, .int .i64 0, .int .i64 0, .int .i64 0] 26)).alloc (.cells #[.int .i64 43, .int .i64 0, .int .i64 0, .int .u16 0, .int .u16 0, .int .u16 0, .slice none 0 0, .slice none 0 0, .int .i64 0, .int .i64 0, .int .i64 0, .int .i64 0] 26)) := ((Below.refl _ _).alloc (Nat.le_refl _) _).alloc (by simp) _
  have HR := Lib.hid ((hr.below hk2).more hk2.size)
  have HX := Lib.hid hx
  have HK2 := Lib.hid hk2
  have HG1 : Hid (WholeV ((w.alloc (.cells #[.int .i64 0, .int .i64 0, .int .i64 0, .int .u16 0, .int .u16 0, .int .u16 0, .slice none 0 0, .slice none 0 0, .int .i64 0, .int .i64 0, .int .i64 0, .int .i64 0] 26)).alloc (.cells #[.int .i64 43, .int .i64 0, .int .i64 0, .int .u16 0, .int .u16 0, .int .u16 0, .slice none 0 0, .slice none 0 0, .int .i64 0, .int .i64 0, .int .i64 0, .int .i64 0] 26)) (w.heap.size + 1) 26 [.int .i64 43, .int .i64 0, .int .i64 0, .int .u16 0, .int .u16 0, .int .u16 0, .slice none 0 0, .slice none 0 0, .int .i64 0, .int .i64 0, .int .i64 0, .int .i64 0]) := by
    have h := heap_alloc_new (w.alloc (.cells #[.int .i64 0, .int .i64 0, .int .i64 0, .int .u16 0, .int .u16 0, .int .u16 0, .slice none 0 0, .slice none 0 0, .int .i64 0, .int .i64 0, .int .i64 0, .int .i64 0] 26)) (.cells #[.int .i64 43, .int .i64 0, .int .i64 0, .int .u16 0, .int .u16 0, .int .u16 0, .slice none 0 0, .slice none 0 0, .int .i64 0, .int .i64 0, .int .i64 0, .int .i64 0] 26)
    rwa [show (w.alloc (.cells #[.int .i64 0, .int .i64 0, .int .i64 0, .int .u16 0, .int .u16 0, .int .u16 0, .slice none 0 0, .slice none 0 0, .int .i64 0, .int .i64 0, .int .i64 0, .int .i64 0] 26)).heap.size = w.heap.size + 1 by simp] at h
  have HG0 : Hid (WholeV ((w.alloc (.cells #[.int .i64 0, .int .i64 0, .int .i64 0, .int .u16 0, .int .u16 0, .int .u16 0, .slice none 0 0, .slice none 0 0, .int .i64 0, .int .i64 0, .int .i64 0, .int .i64 0] 26)).alloc (.cells #[.int .i64 43, .int .i64 0, .int .i64 0, .int .u16 0, .int .u16 0, .int .u16 0, .slice none 0 0, .slice none 0 0, .int .i64 0, .int .i64 0, .int .i64 0, .int .i64 0] 26)) w.heap.size 26 [.int .i64 0, .int .i64 0, .int .i64 0, .int .u16 0, .int .u16 0, .int .u16 0, .slice none 0 0, .slice none 0 0, .int .i64 0, .int .i64 0, .int .i64 0, .int .i64 0]) := by
    have h : WholeV (w.alloc (.cells #[.int .i64 0, .int .i64 0, .int .i64 0, .int .u16 0, .int .u16 0, .int .u16 0, .slice none 0 0, .slice none 0 0, .int .i64 0, .int .i64 0, .int .i64 0, .int .i64 0] 26)) w.heap.size 26 [.int .i64 0, .int .i64 0, .int .i64 0, .int .u16 0, .int .u16 0, .int .u16 0, .slice none 0 0, .slice none 0 0, .int .i64 0, .int .i64 0, .int .i64 0, .int .i64 0] := heap_alloc_new w _
    exact h.below ((Below.refl _ _).alloc (Nat.le_refl _) _) (by simp)
  clear hr hx hcell hbq hk2 h0 hn'
  go_enter Try.func24, Try.ntmps24
  go_wp2_with (go_at_call 62; refine (known_lit 43 true _ HKn.out).mono ?_; rintro e w' ⟨rfl, rfl⟩)
  exact bodyPost_ret (v := .tuple #[.agg #[.int .i64 43, .int .i64 0, .int .i64 0, .int .u16 0, .int .u16 0, .int .u16 0, .slice none 0 0, .slice none 0 0, .int .i64 0, .int .i64 0, .int .i64 0, .int .i64 0], .int .i64 3]) (by simp [results, Try.results24, go_sem]) rfl ⟨rfl, ((Below.refl _ _).alloc (Nat.le_refl _) _).alloc (by simp) _⟩

set_option maxHeartbeats 1000000 in
theorem rparse_14 (A : Option Addr) (n c : Nat) (zs : List Int) (w : World) (hr : Row .u8 w w.heap.size A n zs) (hx : Bytes8 zs) (hn : n ≤ 253) (h1 : 1 ≤ n) (h0 : zs.getD 0 0 = 43) (hn' : 2 ≤ n) (s : Int) (hs : zs.getD 1 0 = s) (hs14 : ¬ s = 14) :
    Calls Try.prog 24 #[.slice A n c] w (ParsedNo 43 1 w) := by
  have HKn : Hid (kKnown 43 = true) := rfl
  have hn3 : ¬ (n : Int) < 2 := by omega
  have hn4 : (1 : Int) < (n : Int) := by omega
  obtain ⟨b, off, rfl, hb, hcell⟩ := hr.2 (by omega)
  have hbq := hx.at_ 0
  change 0 ≤ zs.getD 0 0 ∧ zs.getD 0 0 ≤ 255 at hbq
  rw [h0] at hbq
  have f0 := hbq.1
  have f1 := hbq.2
  have hc0 : (w.alloc (.cells #[.int .i64 0, .int .i64 0, .int .i64 0, .int .u16 0, .int .u16 0, .int .u16 0, .slice none 0 0, .slice none 0 0, .int .i64 0, .int .i64 0, .int .i64 0, .int .i64 0] 26)).cell? ⟨b, off, none⟩ = some (.int .u8 43) := by
    rw [World.cell?_alloc_lt w _ ⟨b, off, none⟩ hb]
    have := hcell 0 (by omega)
    rw [Nat.add_zero, h0] at this
    exact this
  have hn0 : (0 : Int) < (n : Int) := by omega
  have hn1 : ¬ (n : Int) = 0 := by omega
  have hn2 : ¬ (253 : Int) < (n : Int) := by omega
  have hk2 : Below w.heap.size w ((w.alloc (.cells #[.int .i64 0, .int .i64 0, .int .i64 0, .int .u16 0, .int .u16 0, .int .u16 0, .slice none 0 0, .slice none 0 0, .int .i64 0, .int .i64 0, .int .i64 0, .int .i64 0] 26)).alloc (.cells #[.int .i64 43, .int .i64 0, .int .i64 0, .int .u16 0, .int .u16 0, .int .u16 0, .slice none 0 0, .slice none 0 0, .int .i64 0, .int .i64 0, .int .i64 0, .int .i64 0] 26)) := ((Below.refl _ _).alloc (Nat.le_refl _) _).alloc (by simp) _
  have HR := Lib.hid ((hr.below hk2).more hk2.size)
  have HX := Lib.hid hx
  have HK2 := Lib.hid hk2
  have HG1 : Hid (WholeV ((w.alloc (.cells #[.int .i64 0, .int .i64 0, .int .i64 0, .int .u16 0, .int .u16 0, .int .u16 0, .slice none 0 0, .slice none 0 0, .int .i64 0, .int .i64 0, .int .i64 0, .int .i64 0] 26)).alloc (.cells #[.int .i64 43, .int .i64 0, .int .i64 0, .int .u16 0, .int .u16 0, .int .u16 0, .slice none 0 0, .slice none 0 0, .int .i64 0, .int .i64 0, .int .i64 0, .int .i64 0] 26)) (w.heap.size + 1) 26 [.int .i64 43, .int .i64 0, .int .i64 0, .int .u16 0, .int .u16 0, .int .u16 0, .slice none 0 0, .slice none 0 0, .int .i64 0, .int .i64 0, .int .i64 0, .int .i64 0]) := by
    have h := heap_alloc_new (w.alloc (.cells #[.int .i64 0, .int .i64 0, .int .i64 0, .int .u16 0, .int .u16 0, .int .u16 0, .slice none 0 0, .slice none 0 0, .int .i64 0, .int .i64 0, .int .i64 0, .int .i64 0] 26)) (.cells #[.int .i64 43, .int .i64 0, .int .i64 0, .int .u16 0, .int .u16 0, .int .u16 0, .slice none 0 0, .slice none 0 0, .int .i64 0, .int .i64 0, .int .i64 0, .int .i64 0] 26)
    rwa [show (w.alloc (.cells #[.int .i64 0, .int .i64 0, .int .i64 0, .int .u16 0, .int .u16 0, .int .u16 0, .slice none 0 0, .slice none 0 0, .int .i64 0, .int .i64 0, .int .i64 0, .int .i64 0] 26)).heap.size = w.heap.size + 1 by simp] at h
  have HG0 : Hid (WholeV ((w.alloc (.cells #[.int .i64 0, .int .i64 0, .int .i64 0, .int .u16 0, .int .u16 0, .int .u16 0, .slice none 0 0, .slice none 0 0, .int .i64 0, .int .i64 0, .int .i64 0, .int .i64 0] 26)).alloc (.cells #[.int .i64 43, .int .i64 0, .int .i64 0, .int .u16 0, .int .u16 0, .int .u16 0, .slice none 0 0, .slice none 0 0, .int .i64 0, .int .i64 0, .int .i64 0, .int .i64 0] 26)) w.heap.size 26 [.int .i64 0, .int .i64 0, .int .i64 0, .int .u16 0, .int .u16 0, .int .u16 0, .slice none 0 0, .slice none 0 0, .int .i64 0, .int .i64 0, .int .i64 0, .int .i64 0]) := by
    have h : WholeV (w.alloc (.cells #[.int .i64 0, .int .i64 0, .int .i64 0, .int .u16 0, .int .u16 0, .int .u16 0, .slice none 0 0, .slice none 0 0, .int .i64 0, .int .i64 0, .int .i64 0, .int .i64 0] 26)) w.heap.size 26 [.int .i64 0, .int .i64 0, .int .i64 0, .int .u16 0, .int .u16 0, .int .u16 0, .slice none 0 0, .slice none 0 0, .int .i64 0, .int .i64 0, .int .i64 0, .int .i64 0] := heap_alloc_new w _
    exact h.below ((Below.refl _ _).alloc (Nat.le_refl _) _) (by simp)
  have hc1 : ((w.alloc (.cells #[.int .i64 0, .int .i64 0, .int .i64 0, .int .u16 0, .int .u16 0, .int .u16 0, .slice none 0 0, .slice none 0 0, .int .i64 0, .int .i64 0, .int .i64 0, .int .i64 0] 26)).alloc (.cells #[.int .i64 43, .int .i64 0, .int .i64 0, .int .u16 0, .int .u16 0, .int .u16 0, .slice none 0 0, .slice none 0 0, .int .i64 0, .int .i64 0, .int .i64 0, .int .i64 0] 26)).cell? ⟨b, off + 1, none⟩ = some (.int .u8 s) := by rw [hk2.cell hb, hcell 1 (by omega), hs]
  clear hr hx hcell hbq hk2 h0 hs
  go_enter Try.func24, Try.ntmps24
  go_wp2_with (go_at_call 62; refine (known_lit 43 true _ HKn.out).mono ?_; rintro e w' ⟨rfl, rfl⟩)
  exact bodyPost_ret (v := .tuple #[.agg #[.int .i64 43, .int .i64 0, .int .i64 0, .int .u16 0, .int .u16 0, .int .u16 0, .slice none 0 0, .slice none 0 0, .int .i64 0, .int .i64 0, .int .i64 0, .int .i64 0], .int .i64 1]) (by simp [results, Try.results24, go_sem]) rfl ⟨rfl, ((Below.refl _ _).alloc (Nat.le_refl _) _).alloc (by simp) _⟩

set_option maxHeartbeats 1000000 in
theorem rparse_none (A : Option Addr) (n c : Nat) (zs : List Int) (f : Int) (w : World) (hr : Row .u8 w w.heap.size A n zs) (hx : Bytes8 zs) (hn : n ≤ 253) (h1 : 1 ≤ n) (h0 : zs.getD 0 0 = f) (hk : kKnown f = true) (hf43 : ¬ f = 43)
    (hf : ∀ W, Row .u8 W W.heap.size A n zs → Calls Try.prog 63 #[.slice A n c] W (FieldsNo W)) :
    Calls Try.prog 24 #[.slice A n c] w (ParsedNo f 3 w) := by
  have HFD := Lib.hid hf
  clear hf
  have HKn := Lib.hid hk
  clear hk
  obtain ⟨b, off, rfl, hb, hcell⟩ := hr.2 (by omega)
  have hbq := hx.at_ 0
  change 0 ≤ zs.getD 0 0 ∧ zs.getD 0 0 ≤ 255 at hbq
  rw [h0] at hbq
  have f0 := hbq.1
  have f1 := hbq.2
  have hc0 : (w.alloc (.cells #[.int .i64 0, .int .i64 0, .int .i64 0, .int .u16 0, .int .u16 0, .int .u16 0, .slice none 0 0, .slice none 0 0, .int .i64 0, .int .i64 0, .int .i64 0, .int .i64 0] 26)).cell? ⟨b, off, none⟩ = some (.int .u8 f) := by
    rw [World.cell?_alloc_lt w _ ⟨b, off, none⟩ hb]
    have := hcell 0 (by omega)
    rw [Nat.add_zero, h0] at this
    exact this
  have hn0 : (0 : Int) < (n : Int) := by omega
  have hn1 : ¬ (n : Int) = 0 := by omega
  have hn2 : ¬ (253 : Int) < (n : Int) := by omega
  have hk2 : Below w.heap.size w ((w.alloc (.cells #[.int .i64 0, .int .i64 0, .int .i64 0, .int .u16 0, .int .u16 0, .int .u16 0, .slice none 0 0, .slice none 0 0, .int .i64 0, .int .i64 0, .int .i64 0, .int .i64 0] 26)).alloc (.cells #[.int .i64 f, .int .i64 0, .int .i64 0, .int .u16 0, .int .u16 0, .int .u16 0, .slice none 0 0, .slice none 0 0, .int .i64 0, .int .i64 0, .int .i64 0, .int .i64 0] 26)) := ((Below.refl _ _).alloc (Nat.le_refl _) _).alloc (by simp) _
  have HR := Lib.hid ((hr.below hk2).more hk2.size)
  have HX := Lib.hid hx
  have HK2 := Lib.hid hk2
  have HG1 : Hid (WholeV ((w.alloc (.cells #[.int .i64 0, .int .i64 0, .int .i64 0, .int .u16 0, .int .u16 0, .int .u16 0, .slice none 0 0, .slice none 0 0, .int .i64 0, .int .i64 0, .int .i64 0, .int .i64 0] 26)).alloc (.cells #[.int .i64 f, .int .i64 0, .int .i64 0, .int .u16 0, .int .u16 0, .int .u16 0, .slice none 0 0, .slice none 0 0, .int .i64 0, .int .i64 0, .int .i64 0, .int .i64 0] 26)) (w.heap.size + 1) 26 [.int .i64 f, .int .i64 0, .int .i64 0, .int .u16 0, .int .u16 0, .int .u16 0, .slice none 0 0, .slice none 0 0, .int .i64 0, .int .i64 0, .int .i64 0, .int .i64 0]) := by
    have h := heap_alloc_new (w.alloc (.cells #[.int .i64 0, .int .i64 0, .int .i64 0, .int .u16 0, .int .u16 0, .int .u16 0, .slice none 0 0, .slice none 0 0, .int .i64 0, .int .i64 0, .int .i64 0, .int .i64 0] 26)) (.cells #[.int .i64 f, .int .i64 0, .int .i64 0, .int .u16 0, .int .u16 0, .int .u16 0, .slice none 0 0, .slice none 0 0, .int .i64 0, .int .i64 0, .int .i64 0, .int .i64 0] 26)
    rwa [show (w.alloc (.cells #[.int .i64 0, .int .i64 0, .int .i64 0, .int .u16 0, .int .u16 0, .int .u16 0, .slice none 0 0, .slice none 0 0, .int .i64 0, .int .i64 0, .int .i64 0, .int .i64 0] 26)).heap.size = w.heap.size + 1 by simp] at h
  have HG0 : Hid (WholeV ((w.alloc (.cells #[.int .i64 0, .int .i64 0, .int .i64 0, .int .u16 0, .int .u16 0, .int .u16 0, .slice none 0 0, .slice none 0 0, .int .i64 0, .int .i64 0, .int .i64 0, .int .i64 0] 26)).alloc (.cells #[.int .i64 f, .int .i64 0, .int .i64 0, .int .u16 0, .int .u16 0, .int .u16 0, .slice none 0 0, .slice none 0 0, .int .i64 0, .int .i64 0, .int .i64 0, .int .i64 0] 26)) w.heap.size 26 [.int .i64 0, .int .i64 0, .int .i64 0, .int .u16 0, .int .u16 0, .int .u16 0, .slice none 0 0, .slice none 0 0, .int .i64 0, .int .i64 0, .int .i64 0, .int .i64 0]) := by
    have h : WholeV (w.alloc (.cells #[.int .i64 0, .int .i64 0, .int .i64 0, .int .u16 0, .int .u16 0, .int .u16 0, .slice none 0 0, .slice none 0 0, .int .i64 0, .int .i64 0, .int .i64 0, .int .i64 0] 26)) w.heap.size 26 [.int .i64 0, .int .i64 0, .int .i64 0, .int .u16 0, .int .u16 0, .int .u16 0, .slice none 0 0, .slice none 0 0, .int .i64 0, .int .i64 0, .int .i64 0, .int .i64 0] := heap_alloc_new w _
    exact h.below ((Below.refl _ _).alloc (Nat.le_refl _) _) (by simp)
  clear hr hx hcell hbq hk2 h0
  go_enter Try.func24, Try.ntmps24
  go_wp2_with (first
    | (go_at_call 62; refine (known_lit f true _ HKn.out).mono ?_; rintro e w' ⟨rfl, rfl⟩)
    | (go_at_call 63
       refine (HFD.out _ HR.out).mono ?_
       rintro e w5 ⟨fn, at_, nn, v, an, orr, bl, wl, ra, rn, co, ob, BA, WA, bc, wc, rfl, hb5⟩
       have h0 := HG0.out.below hb5 HG0.out.lt
       have h1 := HG1.out.below hb5 HG1.out.lt
       have HB5 : Hid (Below w.heap.size w w5) := HK2.out.trans (hb5.mono HK2.out.size)
       have hka : Below w5.heap.size w5 (w5.alloc (.cells #[.int .i64 fn, .int .i64 at_, .int .i64 nn, .int .u16 v, .int .u16 an, .int .u16 orr, .slice BA bl bc, .slice WA wl wc, .int .i64 ra, .int .i64 rn, .int .i64 co, .int .i64 ob] 26)) := (Below.refl _ _).alloc (Nat.le_refl _) _
       have h0a := h0.below hka h0.lt
       have h1a := h1.below hka h1.lt
       have HBa : Hid (Below w.heap.size w (w5.alloc (.cells #[.int .i64 fn, .int .i64 at_, .int .i64 nn, .int .u16 v, .int .u16 an, .int .u16 orr, .slice BA bl bc, .slice WA wl wc, .int .i64 ra, .int .i64 rn, .int .i64 co, .int .i64 ob] 26))) := HB5.out.trans (hka.mono HB5.out.size)
       have hz5 : w.heap.size + 2 ≤ w5.heap.size := h1.lt
       obtain ⟨hp0, hp1, hp2, hp3, hp4, hp5, hp6, hp7, hp8, hp9, hp10, hp11⟩ := cells12 h0a
       obtain ⟨hq0, hq1, hq2, hq3, hq4, hq5, hq6, hq7, hq8, hq9, hq10, hq11⟩ := cells12 h1a
       obtain ⟨hg0, hg1, hg2, hg3, hg4, hg5, hg6, hg7, hg8, hg9, hg10, hg11⟩ := frozen12 h0a
       have H0a := Lib.hid h0a
       clear h0 h1 h0a h1a hka hb5))
  obtain ⟨X, hX⟩ : ∃ X, w5.alloc (.cells #[.int .i64 fn, .int .i64 at_, .int .i64 nn, .int .u16 v, .int .u16 an, .int .u16 orr, .slice BA bl bc, .slice WA wl wc, .int .i64 ra, .int .i64 rn, .int .i64 co, .int .i64 ob] 26) = X := ⟨_, rfl⟩
  have hx0 : WholeV X w.heap.size 26 [.int .i64 0, .int .i64 0, .int .i64 0, .int .u16 0, .int .u16 0, .int .u16 0, .slice none 0 0, .slice none 0 0, .int .i64 0, .int .i64 0, .int .i64 0, .int .i64 0] := by rw [← hX]; exact H0a.out
  have hxb : Below w.heap.size w X := by rw [← hX]; exact HBa.out
  rw [hX]
  obtain ⟨w9, hw9, hwh, hbb⟩ := set12 hx0 hxb (.int .i64 f) (.int .i64 0) (.int .i64 0) (.int .u16 0) (.int .u16 0) (.int .u16 0) (.slice none 0 0) (.slice none 0 0) (.int .i64 0) (.int .i64 0) (.int .i64 0) (.int .i64 0) rfl
  rw [hw9]
  obtain ⟨he0, he1, he2, he3, he4, he5, he6, he7, he8, he9, he10, he11⟩ := cells12 hwh
  exact bodyPost_ret (v := .tuple #[.agg #[.int .i64 f, .int .i64 0, .int .i64 0, .int .u16 0, .int .u16 0, .int .u16 0, .slice none 0 0, .slice none 0 0, .int .i64 0, .int .i64 0, .int .i64 0, .int .i64 0], .int .i64 3]) (by simp [results, Try.results24, go_sem, he0, he1, he2, he3, he4, he5, he6, he7, he8, he9, he10, he11]) rfl ⟨rfl, hbb⟩

set_option maxHeartbeats 1000000 in
theorem rparse_none_43 (A : Option Addr) (n c : Nat) (zs : List Int) (w : World) (hr : Row .u8 w w.heap.size A n zs) (hx : Bytes8 zs) (hn : n ≤ 253) (h1 : 1 ≤ n) (h0 : zs.getD 0 0 = 43) (hn' : 2 ≤ n) (hs : zs.getD 1 0 = 14)
    (hf : ∀ W, Row .u8 W W.heap.size A n zs → Calls Try.prog 63 #[.slice A n c] W (FieldsNo W)) :
    Calls Try.prog 24 #[.slice A n c] w (ParsedNo 43 3 w) := by
  have HFD := Lib.hid hf
  clear hf
  have HKn : Hid (kKnown 43 = true) := rfl
  have hn3 : ¬ (n : Int) < 2 := by omega
  have hn4 : (1 : Int) < (n : Int) := by omega
  obtain ⟨b, off, rfl, hb, hcell⟩ := hr.2 (by omega)
  have hbq := hx.at_ 0
  change 0 ≤ zs.getD 0 0 ∧ zs.getD 0 0 ≤ 255 at hbq
  rw [h0] at hbq
  have f0 := hbq.1
  have f1 := hbq.2
  have hc0 : (w.alloc (.cells #[.int .i64 0, .int .i64 0, .int .i64 0, .int .u16 0, .int .u16 0, .int .u16 0, .slice none 0 0, .slice none 0 0, .int .i64 0, .int .i64 0, .int .i64 0, .int .i64 0] 26)).cell? ⟨b, off, none⟩ = some (.int .u8 43) := by
    rw [World.cell?_alloc_lt w _ ⟨b, off, none⟩ hb]
    have := hcell 0 (by omega)
    rw [Nat.add_zero, h0] at this
    exact this
  have hn0 : (0 : Int) < (n : Int) := by omega
  have hn1 : ¬ (n : Int) = 0 := by omega
  have hn2 : ¬ (253 : Int) < (n : Int) := by omega
  have hk2 : Below w.heap.size w ((w.alloc (.cells #[.int .i64 0, .int .i64 0, .int .i64 0, .int .u16 0, .int .u16 0, .int .u16 0, .slice none 0 0, .slice none 0 0, .int .i64 0, .int .i64 0, .int .i64 0, .int .i64 0] 26)).alloc (.cells #[.int .i64 43, .int .i64 0, .int .i64 0, .int .u16 0, .int .u16 0, .int .u16 0, .slice none 0 0, .slice none 0 0, .int .i64 0, .int .i64 0, .int .i64 0, .int .i64 0] 26)) := ((Below.refl _ _).alloc (Nat.le_refl _) _).alloc (by simp) _
  have HR := Lib.hid ((hr.below hk2).more hk2.size)
  have HX := Lib.hid hx
  have HK2 := Lib.hid hk2
  have HG1 : Hid (WholeV ((w.alloc (.cells #[.int .i64 0, .int .i64 0, .int .i64 0, .int .u16 0, .int .u16 0, .int .u16 0, .slice none 0 0, .slice none 0 0, .int .i64 0, .int .i64 0, .int .i64 0, .int .i64 0] 26)).alloc (.cells #[.int .i64 43, .int .i64 0, .int .i64 0, .int .u16 0, .int .u16 0, .int .u16 0, .slice none 0 0, .slice none 0 0, .int .i64 0, .int .i64 0, .int .i64 0, .int .i64 0] 26)) (w.heap.size + 1) 26 [.int .i64 43, .int .i64 0, .int .i64 0, .int .u16 0, .int .u16 0, .int .u16 0, .slice none 0 0, .slice none 0 0, .int .i64 0, .int .i64 0, .int .i64 0, .int .i64 0]) := by
    have h := heap_alloc_new (w.alloc (.cells #[.int .i64 0, .int .i64 0, .int .i64 0, .int .u16 0, .int .u16 0, .int .u16 0, .slice none 0 0, .slice none 0 0, .int .i64 0, .int .i64 0, .int .i64 0, .int .i64 0] 26)) (.cells #[.int .i64 43, .int .i64 0, .int .i64 0, .int .u16 0, .int .u16 0, .int .u16 0, .slice none 0 0, .slice none 0 0, .int .i64 0, .int .i64 0, .int .i64 0, .int .i64 0] 26)
    rwa [show (w.alloc (.cells #[.int .i64 0, .int .i64 0, .int .i64 0, .int .u16 0, .int .u16 0, .int .u16 0, .slice none 0 0, .slice none 0 0, .int .i64 0, .int .i64 0, .int .i64 0, .int .i64 0] 26)).heap.size = w.heap.size + 1 by simp] at h
  have HG0 : Hid (WholeV ((w.alloc (.cells #[.int .i64 0, .int .i64 0, .int .i64 0, .int .u16 0, .int .u16 0, .int .u16 0, .slice none 0 0, .slice none 0 0, .int .i64 0, .int .i64 0, .int .i64 0, .int .i64 0] 26)).alloc (.cells #[.int .i64 43, .int .i64 0, .int .i64 0, .int .u16 0, .int .u16 0, .int .u16 0, .slice none 0 0, .slice none 0 0, .int .i64 0, .int .i64 0, .int .i64 0, .int .i64 0] 26)) w.heap.size 26 [.int .i64 0, .int .i64 0, .int .i64 0, .int .u16 0, .int .u16 0, .int .u16 0, .slice none 0 0, .slice none 0 0, .int .i64 0, .int .i64 0, .int .i64 0, .int .i64 0]) := by
    have h : WholeV (w.alloc (.cells #[.int .i64 0, .int .i64 0, .int .i64 0, .int .u16 0, .int .u16 0, .int .u16 0, .slice none 0 0, .slice none 0 0, .int .i64 0, .int .i64 0, .int .i64 0, .int .i64 0] 26)) w.heap.size 26 [.int .i64 0, .int .i64 0, .int .i64 0, .int .u16 0, .int .u16 0, .int .u16 0, .slice none 0 0, .slice none 0 0, .int .i64 0, .int .i64 0, .int .i64 0, .int .i64 0] := heap_alloc_new w _
    exact h.below ((Below.refl _ _).alloc (Nat.le_refl _) _) (by simp)
  have hc1 : ((w.alloc (.cells #[.int .i64 0, .int .i64 0, .int .i64 0, .int .u16 0, .int .u16 0, .int .u16 0, .slice none 0 0, .slice none 0 0, .int .i64 0, .int .i64 0, .int .i64 0, .int .i64 0] 26)).alloc (.cells #[.int .i64 43, .int .i64 0, .int .i64 0, .int .u16 0, .int .u16 0, .int .u16 0, .slice none 0 0, .slice none 0 0, .int .i64 0, .int .i64 0, .int .i64 0, .int .i64 0] 26)).cell? ⟨b, off + 1, none⟩ = some (.int .u8 14) := by rw [hk2.cell hb, hcell 1 (by omega), hs]
  clear hs
  clear hr hx hcell hbq hk2 h0
  go_enter Try.func24, Try.ntmps24
  go_wp2_with (first
    | (go_at_call 62; refine (known_lit 43 true _ HKn.out).mono ?_; rintro e w' ⟨rfl, rfl⟩)
    | (go_at_call 63
       refine (HFD.out _ HR.out).mono ?_
       rintro e w5 ⟨fn, at_, nn, v, an, orr, bl, wl, ra, rn, co, ob, BA, WA, bc, wc, rfl, hb5⟩
       have h0 := HG0.out.below hb5 HG0.out.lt
       have h1 := HG1.out.below hb5 HG1.out.lt
       have HB5 : Hid (Below w.heap.size w w5) := HK2.out.trans (hb5.mono HK2.out.size)
       have hka : Below w5.heap.size w5 (w5.alloc (.cells #[.int .i64 fn, .int .i64 at_, .int .i64 nn, .int .u16 v, .int .u16 an, .int .u16 orr, .slice BA bl bc, .slice WA wl wc, .int .i64 ra, .int .i64 rn, .int .i64 co, .int .i64 ob] 26)) := (Below.refl _ _).alloc (Nat.le_refl _) _
       have h0a := h0.below hka h0.lt
       have h1a := h1.below hka h1.lt
       have HBa : Hid (Below w.heap.size w (w5.alloc (.cells #[.int .i64 fn, .int .i64 at_, .int .i64 nn, .int .u16 v, .int .u16 an, .int .u16 orr, .slice BA bl bc, .slice WA wl wc, .int .i64 ra, .int .i64 rn, .int .i64 co, .int .i64 ob] 26))) := HB5.out.trans (hka.mono HB5.out.size)
       have hz5 : w.heap.size + 2 ≤ w5.heap.size := h1.lt
       obtain ⟨hp0, hp1, hp2, hp3, hp4, hp5, hp6, hp7, hp8, hp9, hp10, hp11⟩ := cells12 h0a
       obtain ⟨hq0, hq1, hq2, hq3, hq4, hq5, hq6, hq7, hq8, hq9, hq10, hq11⟩ := cells12 h1a
       obtain ⟨hg0, hg1, hg2, hg3, hg4, hg5, hg6, hg7, hg8, hg9, hg10, hg11⟩ := frozen12 h0a
       have H0a := Lib.hid h0a
       clear h0 h1 h0a h1a hka hb5))
  obtain ⟨X, hX⟩ : ∃ X, w5.alloc (.cells #[.int .i64 fn, .int .i64 at_, .int .i64 nn, .int .u16 v, .int .u16 an, .int .u16 orr, .slice BA bl bc, .slice WA wl wc, .int .i64 ra, .int .i64 rn, .int .i64 co, .int .i64 ob] 26) = X := ⟨_, rfl⟩
  have hx0 : WholeV X w.heap.size 26 [.int .i64 0, .int .i64 0, .int .i64 0, .int .u16 0, .int .u16 0, .int .u16 0, .slice none 0 0, .slice none 0 0, .int .i64 0, .int .i64 0, .int .i64 0, .int .i64 0] := by rw [← hX]; exact H0a.out
  have hxb : Below w.heap.size w X := by rw [← hX]; exact HBa.out
  rw [hX]
  obtain ⟨w9, hw9, hwh, hbb⟩ := set12 hx0 hxb (.int .i64 43) (.int .i64 0) (.int .i64 0) (.int .u16 0) (.int .u16 0) (.int .u16 0) (.slice none 0 0) (.slice none 0 0) (.int .i64 0) (.int .i64 0) (.int .i64 0) (.int .i64 0) rfl
  rw [hw9]
  obtain ⟨he0, he1, he2, he3, he4, he5, he6, he7, he8, he9, he10, he11⟩ := cells12 hwh
  exact bodyPost_ret (v := .tuple #[.agg #[.int .i64 43, .int .i64 0, .int .i64 0, .int .u16 0, .int .u16 0, .int .u16 0, .slice none 0 0, .slice none 0 0, .int .i64 0, .int .i64 0, .int .i64 0, .int .i64 0], .int .i64 3]) (by simp [results, Try.results24, go_sem, he0, he1, he2, he3, he4, he5, he6, he7, he8, he9, he10, he11]) rfl ⟨rfl, hbb⟩

set_option maxHeartbeats 1000000 in
theorem rparse_ok (A : Option Addr) (n c : Nat) (zs : List Int) (f : Int) (w : World) (hr : Row .u8 w w.heap.size A n zs) (hx : Bytes8 zs) (hn : n ≤ 253) (h1 : 1 ≤ n) (h0 : zs.getD 0 0 = f) (hk : kKnown f = true) (hf43 : ¬ f = 43)
    (fn at_ nn v an orr : Int) (bl wl : Nat) (ra rn co ob : Int) (bs : List Bool) (ws : List Int)
    (hf : ∀ W, Row .u8 W W.heap.size A n zs → Calls Try.prog 63 #[.slice A n c] W (FieldsYes fn at_ nn v an orr bl wl ra rn co ob bs ws W)) :
    Calls Try.prog 24 #[.slice A n c] w (ParsedYes fn at_ nn v an orr bl wl ra rn co ob bs ws w) := by
  have HFD := Lib.hid hf
  clear hf
  have HKn := Lib.hid hk
  clear hk
  obtain ⟨b, off, rfl, hb, hcell⟩ := hr.2 (by omega)
  have hbq := hx.at_ 0
  change 0 ≤ zs.getD 0 0 ∧ zs.getD 0 0 ≤ 255 at hbq
  rw [h0] at hbq
  have f0 := hbq.1
  have f1 := hbq.2
  have hc0 : (w.alloc (.cells #[.int .i64 0, .int .i64 0, .int .i64 0, .int .u16 0, .int .u16 0, .int .u16 0, .slice none 0 0, .slice none 0 0, .int .i64 0, .int .i64 0, .int .i64 0, .int .i64 0] 26)).cell? ⟨b, off, none⟩ = some (.int .u8 f) := by
    rw [World.cell?_alloc_lt w _ ⟨b, off, none⟩ hb]
    have := hcell 0 (by omega)
    rw [Nat.add_zero, h0] at this
    exact this
  have hn0 : (0 : Int) < (n : Int) := by omega
  have hn1 : ¬ (n : Int) = 0 := by omega
  have hn2 : ¬ (253 : Int) < (n : Int) := by omega
  have hk2 : Below w.heap.size w ((w.alloc (.cells #[.int .i64 0, .int .i64 0, .int .i64 0, .int .u16 0, .int .u16 0, .int .u16 0, .slice none 0 0, .slice none 0 0, .int .i64 0, .int .i64 0, .int .i64 0, .int .i64 0] 26)).alloc (.cells #[.int .i64 f, .int .i64 0, .int .i64 0, .int .u16 0, .int .u16 0, .int .u16 0, .slice none 0 0, .slice none 0 0, .int .i64 0, .int .i64 0, .int .i64 0, .int .i64 0] 26)) := ((Below.refl _ _).alloc (Nat.le_refl _) _).alloc (by simp) _
  have HR := Lib.hid ((hr.below hk2).more hk2.size)
  have HX := Lib.hid hx
  have HK2 := Lib.hid hk2
  have HG1 : Hid (WholeV ((w.alloc (.cells #[.int .i64 0, .int .i64 0, .int .i64 0, .int .u16 0, .int .u16 0, .int .u16 0, .slice none 0 0, .slice none 0 0, .int .i64 0, .int .i64 0, .int .i64 0, .int .i64 0] 26)).alloc (.cells #[.int .i64 f, .int .i64 0, .int .i64 0, .int .u16 0, .int .u16 0, .int .u16 0, .slice none 0 0, .slice none 0 0, .int .i64 0, .int .i64 0, .int .i64 0, .int .i64 0] 26)) (w.heap.size + 1) 26 [.int .i64 f, .int .i64 0, .int .i64 0, .int .u16 0, .int .u16 0, .int .u16 0, .slice none 0 0, .slice none 0 0, .int .i64 0, .int .i64 0, .int .i64 0, .int .i64 0]) := by
    have h := heap_alloc_new (w.alloc (.cells #[.int .i64 0, .int .i64 0, .int .i64 0, .int .u16 0, .int .u16 0, .int .u16 0, .slice none 0 0, .slice none 0 0, .int .i64 0, .int .i64 0, .int .i64 0, .int .i64 0] 26)) (.cells #[.int .i64 f, .int .i64 0, .int .i64 0, .int .u16 0, .int .u16 0, .int .u16 0, .slice none 0 0, .slice none 0 0, .int .i64 0, .int .i64 0, .int .i64 0, .int .i64 0] 26)
    rwa [show (w.alloc (.cells #[.int .i64 0, .int .i64 0, .int .i64 0, .int .u16 0, .int .u16 0, .int .u16 0, .slice none 0 0, .slice none 0 0, .int .i64 0, .int .i64 0, .int .i64 0, .int .i64 0] 26)).heap.size = w.heap.size + 1 by simp] at h
  have HG0 : Hid (WholeV ((w.alloc (.cells #[.int .i64 0, .int .i64 0, .int .i64 0, .int .u16 0, .int .u16 0, .int .u16 0, .slice none 0 0, .slice none 0 0, .int .i64 0, .int .i64 0, .int .i64 0, .int .i64 0] 26)).alloc (.cells #[.int .i64 f, .int .i64 0, .int .i64 0, .int .u16 0, .int .u16 0, .int .u16 0, .slice none 0 0, .slice none 0 0, .int .i64 0, .int .i64 0, .int .i64 0, .int .i64 0] 26)) w.heap.size 26 [.int .i64 0, .int .i64 0, .int .i64 0, .int .u16 0, .int .u16 0, .int .u16 0, .slice none 0 0, .slice none 0 0, .int .i64 0, .int .i64 0, .int .i64 0, .int .i64 0]) := by
    have h : WholeV (w.alloc (.cells #[.int .i64 0, .int .i64 0, .int .i64 0, .int .u16 0, .int .u16 0, .int .u16 0, .slice none 0 0, .slice none 0 0, .int .i64 0, .int .i64 0, .int .i64 0, .int .i64 0] 26)) w.heap.size 26 [.int .i64 0, .int .i64 0, .int .i64 0, .int .u16 0, .int .u16 0, .int .u16 0, .slice none 0 0, .slice none 0 0, .int .i64 0, .int .i64 0, .int .i64 0, .int .i64 0] := heap_alloc_new w _
    exact h.below ((Below.refl _ _).alloc (Nat.le_refl _) _) (by simp)
  clear hr hx hcell hbq hk2 h0
  go_enter Try.func24, Try.ntmps24
  go_wp2_with (first
    | (go_at_call 62; refine (known_lit f true _ HKn.out).mono ?_; rintro e w' ⟨rfl, rfl⟩)
    | (go_at_call 63
       refine (HFD.out _ HR.out).mono ?_
       rintro e w5 ⟨BA, WA, bc, wc, rfl, hob, how, hb5⟩
       have h0 := HG0.out.below hb5 HG0.out.lt
       have h1 := HG1.out.below hb5 HG1.out.lt
       have HB5 : Hid (Below w.heap.size w w5) := HK2.out.trans (hb5.mono HK2.out.size)
       have hka : Below w5.heap.size w5 (w5.alloc (.cells #[.int .i64 fn, .int .i64 at_, .int .i64 nn, .int .u16 v, .int .u16 an, .int .u16 orr, .slice BA bl bc, .slice WA wl wc, .int .i64 ra, .int .i64 rn, .int .i64 co, .int .i64 ob] 26)) := (Below.refl _ _).alloc (Nat.le_refl _) _
       have h0a := h0.below hka h0.lt
       have h1a := h1.below hka h1.lt
       have HBa : Hid (Below w.heap.size w (w5.alloc (.cells #[.int .i64 fn, .int .i64 at_, .int .i64 nn, .int .u16 v, .int .u16 an, .int .u16 orr, .slice BA bl bc, .slice WA wl wc, .int .i64 ra, .int .i64 rn, .int .i64 co, .int .i64 ob] 26))) := HB5.out.trans (hka.mono HB5.out.size)
       have hz5 : w.heap.size + 2 ≤ w5.heap.size := h1.lt
       obtain ⟨hp0, hp1, hp2, hp3, hp4, hp5, hp6, hp7, hp8, hp9, hp10, hp11⟩ := cells12 h0a
       obtain ⟨hq0, hq1, hq2, hq3, hq4, hq5, hq6, hq7, hq8, hq9, hq10, hq11⟩ := cells12 h1a
       obtain ⟨hg0, hg1, hg2, hg3, hg4, hg5, hg6, hg7, hg8, hg9, hg10, hg11⟩ := frozen12 h0a
       have H0a := Lib.hid h0a
       have HOB := Lib.hid (own_keep (own_mono hob (show w.heap.size + 2 ≤ _ by simp)) hka)
       have HOW := Lib.hid (own_keep (own_mono how (show w.heap.size + 2 ≤ _ by simp)) hka)
       clear h0 h1 h0a h1a hka hb5 hob how))
  obtain ⟨X, hX⟩ : ∃ X, w5.alloc (.cells #[.int .i64 fn, .int .i64 at_, .int .i64 nn, .int .u16 v, .int .u16 an, .int .u16 orr, .slice BA bl bc, .slice WA wl wc, .int .i64 ra, .int .i64 rn, .int .i64 co, .int .i64 ob] 26) = X := ⟨_, rfl⟩
  have hx0 : WholeV X w.heap.size 26 [.int .i64 0, .int .i64 0, .int .i64 0, .int .u16 0, .int .u16 0, .int .u16 0, .slice none 0 0, .slice none 0 0, .int .i64 0, .int .i64 0, .int .i64 0, .int .i64 0] := by rw [← hX]; exact H0a.out
  have hxb : Below w.heap.size w X := by rw [← hX]; exact HBa.out
  have hob : X.ownsRow (w.heap.size + 2) 4 1 (.slice BA bl bc) bl (bs.map Value.bool) := by rw [← hX]; exact HOB.out
  have how : X.ownsRow (w.heap.size + 2) 22 1 (.slice WA wl wc) wl (ws.map (Value.int .u16)) := by rw [← hX]; exact HOW.out
  rw [hX]
  obtain ⟨w9, hw9, hwh, hbb⟩ := set12 hx0 hxb (.int .i64 fn) (.int .i64 at_) (.int .i64 nn) (.int .u16 v) (.int .u16 an) (.int .u16 orr) (.slice BA bl bc) (.slice WA wl wc) (.int .i64 ra) (.int .i64 rn) (.int .i64 co) (.int .i64 ob) rfl
  have hob9 : w9.ownsRow (w.heap.size + 2) 4 1 (.slice BA bl bc) bl (bs.map Value.bool) := by rw [← hw9]; exact (own_far (own_far (own_far (own_far (own_far (own_far (own_far (own_far (own_far (own_far (own_far (own_far hob ⟨w.heap.size, 0, none⟩ (Nat.lt_succ_of_lt (Nat.lt_succ_self _)) (.int .i64 fn)) ⟨w.heap.size, 1, none⟩ (Nat.lt_succ_of_lt (Nat.lt_succ_self _)) (.int .i64 at_)) ⟨w.heap.size, 2, none⟩ (Nat.lt_succ_of_lt (Nat.lt_succ_self _)) (.int .i64 nn)) ⟨w.heap.size, 3, none⟩ (Nat.lt_succ_of_lt (Nat.lt_succ_self _)) (.int .u16 v)) ⟨w.heap.size, 4, none⟩ (Nat.lt_succ_of_lt (Nat.lt_succ_self _)) (.int .u16 an)) ⟨w.heap.size, 5, none⟩ (Nat.lt_succ_of_lt (Nat.lt_succ_self _)) (.int .u16 orr)) ⟨w.heap.size, 6, none⟩ (Nat.lt_succ_of_lt (Nat.lt_succ_self _)) (.slice BA bl bc)) ⟨w.heap.size, 7, none⟩ (Nat.lt_succ_of_lt (Nat.lt_succ_self _)) (.slice WA wl wc)) ⟨w.heap.size, 8, none⟩ (Nat.lt_succ_of_lt (Nat.lt_succ_self _)) (.int .i64 ra)) ⟨w.heap.size, 9, none⟩ (Nat.lt_succ_of_lt (Nat.lt_succ_self _)) (.int .i64 rn)) ⟨w.heap.size, 10, none⟩ (Nat.lt_succ_of_lt (Nat.lt_succ_self _)) (.int .i64 co)) ⟨w.heap.size, 11, none⟩ (Nat.lt_succ_of_lt (Nat.lt_succ_self _)) (.int .i64 ob))
  have how9 : w9.ownsRow (w.heap.size + 2) 22 1 (.slice WA wl wc) wl (ws.map (Value.int .u16)) := by rw [← hw9]; exact (own_far (own_far (own_far (own_far (own_far (own_far (own_far (own_far (own_far (own_far (own_far (own_far how ⟨w.heap.size, 0, none⟩ (Nat.lt_succ_of_lt (Nat.lt_succ_self _)) (.int .i64 fn)) ⟨w.heap.size, 1, none⟩ (Nat.lt_succ_of_lt (Nat.lt_succ_self _)) (.int .i64 at_)) ⟨w.heap.size, 2, none⟩ (Nat.lt_succ_of_lt (Nat.lt_succ_self _)) (.int .i64 nn)) ⟨w.heap.size, 3, none⟩ (Nat.lt_succ_of_lt (Nat.lt_succ_self _)) (.int .u16 v)) ⟨w.heap.size, 4, none⟩ (Nat.lt_succ_of_lt (Nat.lt_succ_self _)) (.int .u16 an)) ⟨w.heap.size, 5, none⟩ (Nat.lt_succ_of_lt (Nat.lt_succ_self _)) (.int .u16 orr)) ⟨w.heap.size, 6, none⟩ (Nat.lt_succ_of_lt (Nat.lt_succ_self _)) (.slice BA bl bc)) ⟨w.heap.size, 7, none⟩ (Nat.lt_succ_of_lt (Nat.lt_succ_self _)) (.slice WA wl wc)) ⟨w.heap.size, 8, none⟩ (Nat.lt_succ_of_lt (Nat.lt_succ_self _)) (.int .i64 ra)) ⟨w.heap.size, 9, none⟩ (Nat.lt_succ_of_lt (Nat.lt_succ_self _)) (.int .i64 rn)) ⟨w.heap.size, 10, none⟩ (Nat.lt_succ_of_lt (Nat.lt_succ_self _)) (.int .i64 co)) ⟨w.heap.size, 11, none⟩ (Nat.lt_succ_of_lt (Nat.lt_succ_self _)) (.int .i64 ob))
  rw [hw9]
  obtain ⟨he0, he1, he2, he3, he4, he5, he6, he7, he8, he9, he10, he11⟩ := cells12 hwh
  exact bodyPost_ret (v := .tuple #[.agg #[.int .i64 fn, .int .i64 at_, .int .i64 nn, .int .u16 v, .int .u16 an, .int .u16 orr, .slice BA bl bc, .slice WA wl wc, .int .i64 ra, .int .i64 rn, .int .i64 co, .int .i64 ob], .int .i64 0]) (by simp [results, Try.results24, go_sem, he0, he1, he2, he3, he4, he5, he6, he7, he8, he9, he10, he11]) rfl ⟨_, _, _, _, rfl, own_mono hob9 (by omega), own_mono how9 (by omega), hbb⟩

set_option maxHeartbeats 1000000 in
theorem rparse_ok_43 (A : Option Addr) (n c : Nat) (zs : List Int) (w : World) (hr : Row .u8 w w.heap.size A n zs) (hx : Bytes8 zs) (hn : n ≤ 253) (h1 : 1 ≤ n) (h0 : zs.getD 0 0 = 43) (hn' : 2 ≤ n) (hs : zs.getD 1 0 = 14)
    (fn at_ nn v an orr : Int) (bl wl : Nat) (ra rn co ob : Int) (bs : List Bool) (ws : List Int)
    (hf : ∀ W, Row .u8 W W.heap.size A n zs → Calls Try.prog 63 #[.slice A n c] W (FieldsYes fn at_ nn v an orr bl wl ra rn co ob bs ws W)) :
    Calls Try.prog 24 #[.slice A n c] w (ParsedYes fn at_ nn v an orr bl wl ra rn co ob bs ws w) := by
  have HFD := Lib.hid hf
  clear hf
  have HKn : Hid (kKnown 43 = true) := rfl
  have hn3 : ¬ (n : Int) < 2 := by omega
  have hn4 : (1 : Int) < (n : Int) := by omega
  obtain ⟨b, off, rfl, hb, hcell⟩ := hr.2 (by omega)
  have hbq := hx.at_ 0
  change 0 ≤ zs.getD 0 0 ∧ zs.getD 0 0 ≤ 255 at hbq
  rw [h0] at hbq
  have f0 := hbq.1
  have f1 := hbq.2
  have hc0 : (w.alloc (.cells #[.int .i64 0, .int .i64 0, .int .i64 0, .int .u16 0, .int .u16 0, .int .u16 0, .slice none 0 0, .slice none 0 0, .int .i64 0, .int .i64 0, .int .i64 0, .int .i64 0] 26)).cell? ⟨b, off, none⟩ = some (.int .u8 43) := by
    rw [World.cell?_alloc_lt w _ ⟨b, off, none⟩ hb]
    have := hcell 0 (by omega)
    rw [Nat.add_zero, h0] at this
    exact this
  have hn0 : (0 : Int) < (n : Int) := by omega
  have hn1 : ¬ (n : Int) = 0 := by omega
  have hn2 : ¬ (253 : Int) < (n : Int) := by omega
  have hk2 : Below w.heap.size w ((w.alloc (.cells #[.int .i64 0, .int .i64 0, .int .i64 0, .int .u16 0, .int .u16 0, .int .u16 0, .slice none 0 0, .slice none 0 0, .int .i64 0, .int .i64 0, .int .i64 0, .int .i64 0] 26)).alloc (.cells #[.int .i64 43, .int .i64 0, .int .i64 0, .int .u16 0, .int .u16 0, .int .u16 0, .slice none 0 0, .slice none 0 0, .int .i64 0, .int .i64 0, .int .i64 0, .int .i64 0] 26)) := ((Below.refl _ _).alloc (Nat.le_refl _) _).alloc (by simp) _
  have HR := Lib.hid ((hr.below hk2).more hk2.size)
  have HX := Lib.hid hx
  have HK2 := Lib.hid hk2
  have HG1 : Hid (WholeV ((w.alloc (.cells #[.int .i64 0, .int .i64 0, .int .i64 0, .int .u16 0, .int .u16 0, .int .u16 0, .slice none 0 0, .slice none 0 0, .int .i64 0, .int .i64 0, .int .i64 0, .int .i64 0] 26)).alloc (.cells #[.int .i64 43, .int .i64 0, .int .i64 0, .int .u16 0, .int .u16 0, .int .u16 0, .slice none 0 0, .slice none 0 0, .int .i64 0, .int .i64 0, .int .i64 0, .int .i64 0] 26)) (w.heap.size + 1) 26 [.int .i64 43, .int .i64 0, .int .i64 0, .int .u16 0, .int .u16 0, .int .u16 0, .slice none 0 0, .slice none 0 0, .int .i64 0, .int .i64 0, .int .i64 0, .int .i64 0]) := by
    have h := heap_alloc_new (w.alloc (.cells #[.int .i64 0, .int .i64 0, .int .i64 0, .int .u16 0, .int .u16 0, .int .u16 0, .slice none 0 0, .slice none 0 0, .int .i64 0, .int .i64 0, .int .i64 0, .int .i64 0] 26)) (.cells #[.int .i64 43, .int .i64 0, .int .i64 0, .int .u16 0, .int .u16 0, .int .u16 0, .slice none 0 0, .slice none 0 0, .int .i64 0, .int .i64 0, .int .i64 0, .int .i64 0] 26)
    rwa [show (w.alloc (.cells #[.int .i64 0, .int .i64 0, .int .i64 0, .int .u16 0, .int .u16 0, .int .u16 0, .slice none 0 0, .slice none 0 0, .int .i64 0, .int .i64 0, .int .i64 0, .int .i64 0] 26)).heap.size = w.heap.size + 1 by simp] at h
  have HG0 : Hid (WholeV ((w.alloc (.cells #[.int .i64 0, .int .i64 0, .int .i64 0, .int .u16 0, .int .u16 0, .int .u16 0, .slice none 0 0, .slice none 0 0, .int .i64 0, .int .i64 0, .int .i64 0, .int .i64 0] 26)).alloc (.cells #[.int .i64 43, .int .i64 0, .int .i64 0, .int .u16 0, .int .u16 0, .int .u16 0, .slice none 0 0, .slice none 0 0, .int .i64 0, .int .i64 0, .int .i64 0, .int .i64 0] 26)) w.heap.size 26 [.int .i64 0, .int .i64 0, .int .i64 0, .int .u16 0, .int .u16 0, .int .u16 0, .slice none 0 0, .slice none 0 0, .int .i64 0, .int .i64 0, .int .i64 0, .int .i64 0]) := by
    have h : WholeV (w.alloc (.cells #[.int .i64 0, .int .i64 0, .int .i64 0, .int .u16 0, .int .u16 0, .int .u16 0, .slice none 0 0, .slice none 0 0, .int .i64 0, .int .i64 0, .int .i64 0, .int .i64 0] 26)) w.heap.size 26 [.int .i64 0, .int .i64 0, .int .i64 0, .int .u16 0, .int .u16 0, .int .u16 0, .slice none 0 0, .slice none 0 0, .int .i64 0, .int .i64 0, .int .i64 0, .int .i64 0] := heap_alloc_new w _
    exact h.below ((Below.refl _ _).alloc (Nat.le_refl _) _) (by simp)
  have hc1 : ((w.alloc (.cells #[.int .i64 0, .int .i64 0, .int .i64 0, .int .u16 0, .int .u16 0, .int .u16 0, .slice none 0 0, .slice none 0 0, .int .i64 0, .int .i64 0, .int .i64 0, .int .i64 0] 26)).alloc (.cells #[.int .i64 43, .int .i64 0, .int .i64 0, .int .u16 0, .int .u16 0, .int .u16 0, .slice none 0 0, .slice none 0 0, .int .i64 0, .int .i64 0, .int .i64 0, .int .i64 0] 26)).cell? ⟨b, off + 1, none⟩ = some (.int .u8 14) := by rw [hk2.cell hb, hcell 1 (by omega), hs]
  clear hs
  clear hr hx hcell hbq hk2 h0
  go_enter Try.func24, Try.ntmps24
  go_wp2_with (first
    | (go_at_call 62; refine (known_lit 43 true _ HKn.out).mono ?_; rintro e w' ⟨rfl, rfl⟩)
    | (go_at_call 63
       refine (HFD.out _ HR.out).mono ?_
       rintro e w5 ⟨BA, WA, bc, wc, rfl, hob, how, hb5⟩
       have h0 := HG0.out.below hb5 HG0.out.lt
       have h1 := HG1.out.below hb5 HG1.out.lt
       have HB5 : Hid (Below w.heap.size w w5) := HK2.out.trans (hb5.mono HK2.out.size)
       have hka : Below w5.heap.size w5 (w5.alloc (.cells #[.int .i64 fn, .int .i64 at_, .int .i64 nn, .int .u16 v, .int .u16 an, .int .u16 orr, .slice BA bl bc, .slice WA wl wc, .int .i64 ra, .int .i64 rn, .int .i64 co, .int .i64 ob] 26)) := (Below.refl _ _).alloc (Nat.le_refl _) _
       have h0a := h0.below hka h0.lt
       have h1a := h1.below hka h1.lt
       have HBa : Hid (Below w.heap.size w (w5.alloc (.cells #[.int .i64 fn, .int .i64 at_, .int .i64 nn, .int .u16 v, .int .u16 an, .int .u16 orr, .slice BA bl bc, .slice WA wl wc, .int .i64 ra, .int .i64 rn, .int .i64 co, .int .i64 ob] 26))) := HB5.out.trans (hka.mono HB5.out.size)
       have hz5 : w.heap.size + 2 ≤ w5.heap.size := h1.lt
       obtain ⟨hp0, hp1, hp2, hp3, hp4, hp5, hp6, hp7, hp8, hp9, hp10, hp11⟩ := cells12 h0a
       obtain ⟨hq0, hq1, hq2, hq3, hq4, hq5, hq6, hq7, hq8, hq9, hq10, hq11⟩ := cells12 h1a
       obtain ⟨hg0, hg1, hg2, hg3, hg4, hg5, hg6, hg7, hg8, hg9, hg10, hg11⟩ := frozen12 h0a
       have H0a := Lib.hid h0a
       have HOB := Lib.hid (own_keep (own_mono hob (show w.heap.size + 2 ≤ _ by simp)) hka)
       have HOW := Lib.hid (own_keep (own_mono how (show w.heap.size + 2 ≤ _ by simp)) hka)
       clear h0 h1 h0a h1a hka hb5 hob how))
  obtain ⟨X, hX⟩ : ∃ X, w5.alloc (.cells #[.int .i64 fn, .int .i64 at_, .int .i64 nn, .int .u16 v, .int .u16 an, .int .u16 orr, .slice BA bl bc, .slice WA wl wc, .int .i64 ra, .int .i64 rn, .int .i64 co, .int .i64 ob] 26) = X := ⟨_, rfl⟩
  have hx0 : WholeV X w.heap.size 26 [.int .i64 0, .int .i64 0, .int .i64 0, .int .u16 0, .int .u16 0, .int .u16 0, .slice none 0 0, .slice none 0 0, .int .i64 0, .int .i64 0, .int .i64 0, .int .i64 0] := by rw [← hX]; exact H0a.out
  have hxb : Below w.heap.size w X := by rw [← hX]; exact HBa.out
  have hob : X.ownsRow (w.heap.size + 2) 4 1 (.slice BA bl bc) bl (bs.map Value.bool) := by rw [← hX]; exact HOB.out
  have how : X.ownsRow (w.heap.size + 2) 22 1 (.slice WA wl wc) wl (ws.map (Value.int .u16)) := by rw [← hX]; exact HOW.out
  rw [hX]
  obtain ⟨w9, hw9, hwh, hbb⟩ := set12 hx0 hxb (.int .i64 fn) (.int .i64 at_) (.int .i64 nn) (.int .u16 v) (.int .u16 an) (.int .u16 orr) (.slice BA bl bc) (.slice WA wl wc) (.int .i64 ra) (.int .i64 rn) (.int .i64 co) (.int .i64 ob) rfl
  have hob9 : w9.ownsRow (w.heap.size + 2) 4 1 (.slice BA bl bc) bl (bs.map Value.bool) := by rw [← hw9]; exact (own_far (own_far (own_far (own_far (own_far (own_far (own_far (own_far (own_far (own_far (own_far (own_far hob ⟨w.heap.size, 0, none⟩ (Nat.lt_succ_of_lt (Nat.lt_succ_self _)) (.int .i64 fn)) ⟨w.heap.size, 1, none⟩ (Nat.lt_succ_of_lt (Nat.lt_succ_self _)) (.int .i64 at_)) ⟨w.heap.size, 2, none⟩ (Nat.lt_succ_of_lt (Nat.lt_succ_self _)) (.int .i64 nn)) ⟨w.heap.size, 3, none⟩ (Nat.lt_succ_of_lt (Nat.lt_succ_self _)) (.int .u16 v)) ⟨w.heap.size, 4, none⟩ (Nat.lt_succ_of_lt (Nat.lt_succ_self _)) (.int .u16 an)) ⟨w.heap.size, 5, none⟩ (Nat.lt_succ_of_lt (Nat.lt_succ_self _)) (.int .u16 orr)) ⟨w.heap.size, 6, none⟩ (Nat.lt_succ_of_lt (Nat.lt_succ_self _)) (.slice BA bl bc)) ⟨w.heap.size, 7, none⟩ (Nat.lt_succ_of_lt (Nat.lt_succ_self _)) (.slice WA wl wc)) ⟨w.heap.size, 8, none⟩ (Nat.lt_succ_of_lt (Nat.lt_succ_self _)) (.int .i64 ra)) ⟨w.heap.size, 9, none⟩ (Nat.lt_succ_of_lt (Nat.lt_succ_self _)) (.int .i64 rn)) ⟨w.heap.size, 10, none⟩ (Nat.lt_succ_of_lt (Nat.lt_succ_self _)) (.int .i64 co)) ⟨w.heap.size, 11, none⟩ (Nat.lt_succ_of_lt (Nat.lt_succ_self _)) (.int .i64 ob))
  have how9 : w9.ownsRow (w.heap.size + 2) 22 1 (.slice WA wl wc) wl (ws.map (Value.int .u16)) := by rw [← hw9]; exact (own_far (own_far (own_far (own_far (own_far (own_far (own_far (own_far (own_far (own_far (own_far (own_far how ⟨w.heap.size, 0, none⟩ (Nat.lt_succ_of_lt (Nat.lt_succ_self _)) (.int .i64 fn)) ⟨w.heap.size, 1, none⟩ (Nat.lt_succ_of_lt (Nat.lt_succ_self _)) (.int .i64 at_)) ⟨w.heap.size, 2, none⟩ (Nat.lt_succ_of_lt (Nat.lt_succ_self _)) (.int .i64 nn)) ⟨w.heap.size, 3, none⟩ (Nat.lt_succ_of_lt (Nat.lt_succ_self _)) (.int .u16 v)) ⟨w.heap.size, 4, none⟩ (Nat.lt_succ_of_lt (Nat.lt_succ_self _)) (.int .u16 an)) ⟨w.heap.size, 5, none⟩ (Nat.lt_succ_of_lt (Nat.lt_succ_self _)) (.int .u16 orr)) ⟨w.heap.size, 6, none⟩ (Nat.lt_succ_of_lt (Nat.lt_succ_self _)) (.slice BA bl bc)) ⟨w.heap.size, 7, none⟩ (Nat.lt_succ_of_lt (Nat.lt_succ_self _)) (.slice WA wl wc)) ⟨w.heap.size, 8, none⟩ (Nat.lt_succ_of_lt (Nat.lt_succ_self _)) (.int .i64 ra)) ⟨w.heap.size, 9, none⟩ (Nat.lt_succ_of_lt (Nat.lt_succ_self _)) (.int .i64 rn)) ⟨w.heap.size, 10, none⟩ (Nat.lt_succ_of_lt (Nat.lt_succ_self _)) (.int .i64 co)) ⟨w.heap.size, 11, none⟩ (Nat.lt_succ_of_lt (Nat.lt_succ_self _)) (.int .i64 ob))
  rw [hw9]
  obtain ⟨he0, he1, he2, he3, he4, he5, he6, he7, he8, he9, he10, he11⟩ := cells12 hwh
  exact bodyPost_ret (v := .tuple #[.agg #[.int .i64 fn, .int .i64 at_, .int .i64 nn, .int .u16 v, .int .u16 an, .int .u16 orr, .slice BA bl bc, .slice WA wl wc, .int .i64 ra, .int .i64 rn, .int .i64 co, .int .i64 ob], .int .i64 0]) (by simp [results, Try.results24, go_sem, he0, he1, he2, he3, he4, he5, he6, he7, he8, he9, he10, he11]) rfl ⟨_, _, _, _, rfl, own_mono hob9 (by omega), own_mono how9 (by omega), hbb⟩

/-- What read answers. -/
def ReadTo (o : Option Req) (w : World) (e : Ending) (w' : World) : Prop := match o with
  | none => FieldsNo w e w'
  | some r => if r.right then FieldsTo (some r) w e w' else FieldsNo w e w'
theorem rno {w : World} {e : Ending} {w' : World} {fn at_ nn v an orr : Int} {bl wl : Nat} {ra rn co ob : Int} {BA WA : Option Addr} {bc wc : Nat} {o : Option Req} (ho : o = none ∨ ∃ r, o = some r ∧ ¬ r.right)
    (h : e = .returned (.tuple #[.agg #[.int .i64 fn, .int .i64 at_, .int .i64 nn, .int .u16 v, .int .u16 an, .int .u16 orr, .slice BA bl bc, .slice WA wl wc, .int .i64 ra, .int .i64 rn, .int .i64 co, .int .i64 ob], .bool false]) ∧ Below w.heap.size w w') : ReadTo o w e w' := by
  have hn : FieldsNo w e w' := ⟨_, _, _, _, _, _, _, _, _, _, _, _, _, _, _, _, h.1, h.2⟩
  rcases ho with rfl | ⟨r, rfl, hr⟩
  · exact hn
  · show (if r.right then _ else _)
    rw [if_neg hr]
    exact hn
theorem ryes {r : Req} {w : World} {e : Ending} {w' : World} (hr : r.right) (h : FieldsTo (some r) w e w') : ReadTo (some r) w e w' := by
  show (if r.right then _ else _)
  rw [if_pos hr]
  exact h

theorem rread_any (A : Option Addr) (n c : Nat) (zs : List Int) (w : World) (hr : Row .u8 w w.heap.size A n zs) (hx : Bytes8 zs) (hn : n ≤ 1000) (h1 : 1 ≤ n) (hc : n ≤ c) (hk : kKnown (zs.getD 0 0) = true) :
    Calls Try.prog 63 #[.slice A n c] w (ReadTo (cand zs n) w) := by
  have g3 := gotW_bounds hx n 3
  have g7 := gotW_bounds hx n 7
  have b5 : 0 ≤ zs.getD 5 0 ∧ zs.getD 5 0 ≤ 255 := hx.at_ 5
  rcases kinds (zs.getD 0 0) with h0 | h0 | h0 | h0 | h0 | h0 | h0 | h0 | h0 | h0 | h0 | h0
  · rw [cand_read h0 (by omega)]
    by_cases hl : n = 5
    · rw [if_pos hl]
      by_cases hrt : Req.right ⟨1, gotW zs n 1, gotW zs n 3, 0, 0, 0, [], [], 0, 0, 0, 0⟩
      · exact (rread_1_is A n c zs _ _ w hr hx hn h1 h0 rfl rfl hl true (decide_eq_true hrt)).mono fun _ _ h => ryes hrt (fyes h)
      · exact (rread_1_is A n c zs _ _ w hr hx hn h1 h0 rfl rfl hl false (decide_eq_false hrt)).mono fun _ _ h => rno (.inr ⟨_, rfl, hrt⟩) h
    · rw [if_neg hl]; exact (rread_1_len A n c zs _ _ w hr hx hn h1 h0 rfl rfl hl).mono fun _ _ h => rno (.inl rfl) h
  · rw [cand_read h0 (by omega)]
    by_cases hl : n = 5
    · rw [if_pos hl]
      by_cases hrt : Req.right ⟨2, gotW zs n 1, gotW zs n 3, 0, 0, 0, [], [], 0, 0, 0, 0⟩
      · exact (rread_2_is A n c zs _ _ w hr hx hn h1 h0 rfl rfl hl true (decide_eq_true hrt)).mono fun _ _ h => ryes hrt (fyes h)
      · exact (rread_2_is A n c zs _ _ w hr hx hn h1 h0 rfl rfl hl false (decide_eq_false hrt)).mono fun _ _ h => rno (.inr ⟨_, rfl, hrt⟩) h
    · rw [if_neg hl]; exact (rread_2_len A n c zs _ _ w hr hx hn h1 h0 rfl rfl hl).mono fun _ _ h => rno (.inl rfl) h
  · rw [cand_read h0 (by omega)]
    by_cases hl : n = 5
    · rw [if_pos hl]
      by_cases hrt : Req.right ⟨3, gotW zs n 1, gotW zs n 3, 0, 0, 0, [], [], 0, 0, 0, 0⟩
      · exact (rread_3_is A n c zs _ _ w hr hx hn h1 h0 rfl rfl hl true (decide_eq_true hrt)).mono fun _ _ h => ryes hrt (fyes h)
      · exact (rread_3_is A n c zs _ _ w hr hx hn h1 h0 rfl rfl hl false (decide_eq_false hrt)).mono fun _ _ h => rno (.inr ⟨_, rfl, hrt⟩) h
    · rw [if_neg hl]; exact (rread_3_len A n c zs _ _ w hr hx hn h1 h0 rfl rfl hl).mono fun _ _ h => rno (.inl rfl) h
  · rw [cand_read h0 (by omega)]
    by_cases hl : n = 5
    · rw [if_pos hl]
      by_cases hrt : Req.right ⟨4, gotW zs n 1, gotW zs n 3, 0, 0, 0, [], [], 0, 0, 0, 0⟩
      · exact (rread_4_is A n c zs _ _ w hr hx hn h1 h0 rfl rfl hl true (decide_eq_true hrt)).mono fun _ _ h => ryes hrt (fyes h)
      · exact (rread_4_is A n c zs _ _ w hr hx hn h1 h0 rfl rfl hl false (decide_eq_false hrt)).mono fun _ _ h => rno (.inr ⟨_, rfl, hrt⟩) h
    · rw [if_neg hl]; exact (rread_4_len A n c zs _ _ w hr hx hn h1 h0 rfl rfl hl).mono fun _ _ h => rno (.inl rfl) h
  · have g1 := gotW_bounds hx n 1
    have hrt : ∀ v : Int, 0 ≤ v → v ≤ 1 → Req.right ⟨5, gotW zs n 1, 0, v, 0, 0, [], [], 0, 0, 0, 0⟩ := by
      intro v v0 v1
      refine ⟨rfl, ?_, ⟨g1.1, g1.2⟩, ⟨by show (0 : Int) ≤ 0; omega, by show (0 : Int) ≤ 65535; omega⟩, ?_⟩
      · unfold plainP; simp
      · unfold fitsP; simp; omega
    rw [cand_5 h0]
    by_cases hl : n = 5
    · by_cases h3 : gotW zs n 3 = 0
      · rw [if_pos ⟨hl, h3⟩]; exact (rread_5_nought A n c zs _ _ w hr hx hn h1 h0 rfl rfl hl h3).mono fun _ _ h => ryes (hrt 0 (by omega) (by omega)) (fyes h)
      · rw [if_neg (fun h => h3 h.2)]
        by_cases h4 : gotW zs n 3 = 65280
        · rw [if_pos ⟨hl, h4⟩]; exact (rread_5_one A n c zs _ _ w hr hx hn h1 h0 rfl rfl hl h4).mono fun _ _ h => ryes (hrt 1 (by omega) (by omega)) (fyes h)
        · rw [if_neg (fun h => h4 h.2)]; exact (rread_5_other A n c zs _ _ w hr hx hn h1 h0 rfl rfl hl h3 h4).mono fun _ _ h => rno (.inl rfl) h
    · rw [if_neg (fun h => hl h.1), if_neg (fun h => hl h.1)]
      by_cases h4 : gotW zs n 3 = 65280
      · exact (rread_5_lena A n c zs _ _ w hr hx hn h1 h0 rfl rfl hl h4).mono fun _ _ h => rno (.inl rfl) h
      · exact (rread_5_lenb A n c zs _ _ w hr hx hn h1 h0 rfl rfl hl h4).mono fun _ _ h => rno (.inl rfl) h
  · rw [cand_6 h0]
    by_cases hl : n = 5
    · rw [if_pos hl]
      by_cases hrt : Req.right ⟨6, gotW zs n 1, 0, gotW zs n 3, 0, 0, [], [], 0, 0, 0, 0⟩
      · exact (rread_6_is A n c zs _ _ w hr hx hn h1 h0 rfl rfl hl true (decide_eq_true hrt)).mono fun _ _ h => ryes hrt (fyes h)
      · exact (rread_6_is A n c zs _ _ w hr hx hn h1 h0 rfl rfl hl false (decide_eq_false hrt)).mono fun _ _ h => rno (.inr ⟨_, rfl, hrt⟩) h
    · rw [if_neg hl]; exact (rread_6_len A n c zs _ _ w hr hx hn h1 h0 rfl rfl hl).mono fun _ _ h => rno (.inl rfl) h
  · rw [cand_15 h0]
    by_cases h5 : 5 < n
    · obtain ⟨t, ht⟩ : ∃ t, n = 6 + t := ⟨n - 6, by omega⟩
      have e : gotW zs n 3 = ((gotW zs n 3).toNat : Int) := by omega
      have hnk : nbI (gotW zs n 3) = ((nb (gotW zs n 3).toNat : Nat) : Int) := by rw [← nbI_nat, ← e]
      by_cases hu : nbI (gotW zs n 3) = (t : Int)
      · have hkn : (t : Int) = ((nb (gotW zs n 3).toNat : Nat) : Int) := by rw [← hnk, hu]
        by_cases hb : zs.getD 5 0 = ((nb (gotW zs n 3).toNat : Nat) : Int)
        · rw [if_pos ⟨h5, by omega, by omega⟩]
          have fin : ∀ e w', (∃ G g, e = .returned (.tuple #[.agg #[.int .i64 15, .int .i64 (gotW zs n 1), .int .i64 (gotW zs n 3), .int .u16 0, .int .u16 0, .int .u16 0, .slice G (gotW zs n 3).toNat g, .slice none 0 0, .int .i64 0, .int .i64 0, .int .i64 0, .int .i64 0], .bool true]) ∧ w'.ownsRow w.heap.size 4 1 (.slice G (gotW zs n 3).toNat g) (gotW zs n 3).toNat ((unb (zs.drop 6) (gotW zs n 3).toNat).map Value.bool) ∧ Below w.heap.size w w') → FieldsTo (some ⟨15, gotW zs n 1, gotW zs n 3, 0, 0, 0, unb (zs.drop 6) (gotW zs n 3).toNat, [], 0, 0, 0, 0⟩) w e w' := by
            rintro e w' ⟨G, g, he, ho, hb⟩
            refine ⟨G, none, g, 0, ?_, ?_, own_none _ _ _, hb⟩
            · rw [unb_length]; exact he
            · rw [unb_length]; exact ho
          by_cases hrt : Req.right ⟨15, gotW zs n 1, gotW zs n 3, 0, 0, 0, unb (zs.drop 6) (gotW zs n 3).toNat, [], 0, 0, 0, 0⟩
          · have hrt' : rightP 15 (gotW zs n 1) (gotW zs n 3) 0 0 0 (gotW zs n 3).toNat 0 0 0 0 0 := by
              have h := hrt
              unfold Req.right at h
              rw [unb_length] at h
              exact h
            by_cases hcap : c = 6
            · exact (rread_15_isb A n c zs w hr hx hn h1 _ _ _ t h0 ht hc hcap rfl rfl rfl _ e hkn hb true (decide_eq_true hrt')).mono fun _ _ h => ryes hrt (fin _ _ h)
            · exact (rread_15_isa A n c zs w hr hx hn h1 _ _ _ t h0 ht hc hcap rfl rfl rfl _ e hkn hb true (decide_eq_true hrt')).mono fun _ _ h => ryes hrt (fin _ _ h)
          · have hrt' : ¬ rightP 15 (gotW zs n 1) (gotW zs n 3) 0 0 0 (gotW zs n 3).toNat 0 0 0 0 0 := by
              intro h
              apply hrt
              unfold Req.right
              rw [unb_length]
              exact h
            by_cases hcap : c = 6
            · exact (rread_15_isb A n c zs w hr hx hn h1 _ _ _ t h0 ht hc hcap rfl rfl rfl _ e hkn hb false (decide_eq_false hrt')).mono fun _ _ ⟨_, _, h, _, h2⟩ => rno (.inr ⟨_, rfl, hrt⟩) ⟨h, h2⟩
            · exact (rread_15_isa A n c zs w hr hx hn h1 _ _ _ t h0 ht hc hcap rfl rfl rfl _ e hkn hb false (decide_eq_false hrt')).mono fun _ _ ⟨_, _, h, _, h2⟩ => rno (.inr ⟨_, rfl, hrt⟩) ⟨h, h2⟩
        · rw [if_neg (fun h => hb (by have := h.2.2; omega))]
          by_cases hcap : c = 6
          · exact (rread_15_byteb A n c zs w hr hx hn h1 _ _ _ t h0 ht hc hcap rfl rfl rfl _ e hkn hb).mono fun _ _ ⟨_, _, h⟩ => rno (.inl rfl) h
          · exact (rread_15_bytea A n c zs w hr hx hn h1 _ _ _ t h0 ht hc hcap rfl rfl rfl _ e hkn hb).mono fun _ _ ⟨_, _, h⟩ => rno (.inl rfl) h
      · rw [if_neg (fun h => hu (by have := h.2.1; have := h.2.2; omega))]
        by_cases hcap : c = 6
        · exact (rread_15_nob A n c zs w hr hx hn h1 _ _ _ t h0 ht hc hcap rfl rfl rfl hu).mono fun _ _ h => rno (.inl rfl) h
        · exact (rread_15_noa A n c zs w hr hx hn h1 _ _ _ t h0 ht hc hcap rfl rfl rfl hu).mono fun _ _ h => rno (.inl rfl) h
    · rw [if_neg (fun h => h5 h.1)]; exact (rread_15_few A n c zs w hr hx hn h1 h0 (by omega)).mono fun _ _ h => rno (.inl rfl) h
  · rw [cand_16 h0]
    by_cases h5 : 5 < n
    · by_cases hln : (n : Int) = 6 + 2 * gotW zs n 3
      · obtain ⟨m, hm⟩ : ∃ m : Nat, gotW zs n 3 = (m : Int) := ⟨(gotW zs n 3).toNat, by omega⟩
        have hln' : n = 6 + 2 * m := by omega
        by_cases hb : zs.getD 5 0 = 2 * (m : Int)
        · rw [if_pos ⟨h5, by omega, by omega⟩, hm, Int.toNat_natCast]
          by_cases hrt : Req.right ⟨16, gotW zs n 1, (m : Int), 0, 0, 0, [], wordsAt zs 6 m, 0, 0, 0, 0⟩
          · have hrt' : rightP 16 (gotW zs n 1) (m : Int) 0 0 0 0 m 0 0 0 0 := by
              have h := hrt
              unfold Req.right at h
              rw [wordsAt_length] at h
              exact h
            refine (rread_16_is A n c zs _ m w hr hx hn h1 h0 rfl hm hln' hb true (decide_eq_true hrt')).mono ?_
            rintro e w' ⟨B, d, he, ho, hb⟩
            refine ryes hrt ⟨none, B, 0, d, ?_, own_none _ _ _, ?_, hb⟩
            · rw [wordsAt_length]; exact he
            · rw [wordsAt_length]; exact ho
          · have hrt' : ¬ rightP 16 (gotW zs n 1) (m : Int) 0 0 0 0 m 0 0 0 0 := by
              intro h
              apply hrt
              unfold Req.right
              rw [wordsAt_length]
              exact h
            exact (rread_16_is A n c zs _ m w hr hx hn h1 h0 rfl hm hln' hb false (decide_eq_false hrt')).mono fun _ _ ⟨_, _, h, _, h2⟩ => rno (.inr ⟨_, rfl, hrt⟩) ⟨h, h2⟩
        · rw [if_neg (fun h => hb (by have := h.2.2; omega))]
          exact (rread_16_byte A n c zs _ _ m w hr hx hn h1 h0 rfl hm hln' rfl hb).mono fun _ _ ⟨_, _, h⟩ => rno (.inl rfl) h
      · rw [if_neg (fun h => hln (by have := h.2.1; have := h.2.2; omega))]
        exact (rread_16_len A n c zs _ _ w hr hx hn h1 h0 rfl rfl (by omega) hln).mono fun _ _ h => rno (.inl rfl) h
    · rw [if_neg (fun h => h5 h.1)]; exact (rread_16_few A n c zs w hr hx hn h1 h0 (by omega)).mono fun _ _ h => rno (.inl rfl) h
  · rw [cand_22 h0]
    by_cases hl : n = 7
    · rw [if_pos hl]
      by_cases hrt : Req.right ⟨22, gotW zs n 1, 0, 0, gotW zs n 3, gotW zs n 5, [], [], 0, 0, 0, 0⟩
      · exact (rread_22_is A n c zs _ _ _ w hr hx hn h1 h0 rfl rfl rfl hl true (decide_eq_true hrt)).mono fun _ _ h => ryes hrt (fyes h)
      · exact (rread_22_is A n c zs _ _ _ w hr hx hn h1 h0 rfl rfl rfl hl false (decide_eq_false hrt)).mono fun _ _ h => rno (.inr ⟨_, rfl, hrt⟩) h
    · rw [if_neg hl]; exact (rread_22_len A n c zs _ _ _ w hr hx hn h1 h0 rfl rfl rfl hl).mono fun _ _ h => rno (.inl rfl) h
  · rw [cand_23 h0]
    by_cases h5 : 9 < n
    · by_cases hln : (n : Int) = 10 + 2 * gotW zs n 7
      · obtain ⟨m, hm⟩ : ∃ m : Nat, gotW zs n 7 = (m : Int) := ⟨(gotW zs n 7).toNat, by omega⟩
        have hln' : n = 10 + 2 * m := by omega
        by_cases hb : zs.getD 9 0 = 2 * (m : Int)
        · rw [if_pos ⟨h5, by omega, by omega⟩, hm, Int.toNat_natCast]
          by_cases hrt : Req.right ⟨23, gotW zs n 5, (m : Int), 0, 0, 0, [], wordsAt zs 10 m, gotW zs n 1, gotW zs n 3, 0, 0⟩
          · have hrt' : rightP 23 (gotW zs n 5) (m : Int) 0 0 0 0 m (gotW zs n 1) (gotW zs n 3) 0 0 := by
              have h := hrt
              unfold Req.right at h
              rw [wordsAt_length] at h
              exact h
            refine (rread_23_is A n c zs _ _ _ m w hr hx hn h1 h0 rfl rfl rfl hm hln' hb true (decide_eq_true hrt')).mono ?_
            rintro e w' ⟨B, d, he, ho, hb⟩
            refine ryes hrt ⟨none, B, 0, d, ?_, own_none _ _ _, ?_, hb⟩
            · rw [wordsAt_length]; exact he
            · rw [wordsAt_length]; exact ho
          · have hrt' : ¬ rightP 23 (gotW zs n 5) (m : Int) 0 0 0 0 m (gotW zs n 1) (gotW zs n 3) 0 0 := by
              intro h
              apply hrt
              unfold Req.right
              rw [wordsAt_length]
              exact h
            exact (rread_23_is A n c zs _ _ _ m w hr hx hn h1 h0 rfl rfl rfl hm hln' hb false (decide_eq_false hrt')).mono fun _ _ ⟨_, _, h, _, h2⟩ => rno (.inr ⟨_, rfl, hrt⟩) ⟨h, h2⟩
        · rw [if_neg (fun h => hb (by have := h.2.2; omega))]
          exact (rread_23_byte A n c zs _ _ _ _ m w hr hx hn h1 h0 rfl rfl rfl hm hln' rfl hb).mono fun _ _ ⟨_, _, h⟩ => rno (.inl rfl) h
      · rw [if_neg (fun h => hln (by have := h.2.1; have := h.2.2; omega))]
        exact (rread_23_len A n c zs _ _ _ _ w hr hx hn h1 h0 rfl rfl rfl rfl (by omega) hln).mono fun _ _ h => rno (.inl rfl) h
    · rw [if_neg (fun h => h5 h.1)]; exact (rread_23_few A n c zs w hr hx hn h1 h0 (by omega)).mono fun _ _ h => rno (.inl rfl) h
  · rw [cand_43 h0]
    by_cases hl : n = 4
    · rw [if_pos hl]
      by_cases hrt : Req.right ⟨43, 0, 0, 0, 0, 0, [], [], 0, 0, zs.getD 2 0, zs.getD 3 0⟩
      · exact (rread_43_is A n c zs _ _ w hr hx hn h1 h0 rfl rfl hl true (decide_eq_true hrt)).mono fun _ _ h => ryes hrt (fyes h)
      · exact (rread_43_is A n c zs _ _ w hr hx hn h1 h0 rfl rfl hl false (decide_eq_false hrt)).mono fun _ _ h => rno (.inr ⟨_, rfl, hrt⟩) h
    · rw [if_neg hl]; exact (rread_43_len A n c zs w hr hx hn h1 h0 hl).mono fun _ _ h => rno (.inl rfl) h
  · rw [h0.known] at hk; cases hk

theorem rparse_any (A : Option Addr) (n c : Nat) (zs : List Int) (w : World) (hr : Row .u8 w w.heap.size A n zs) (hx : Bytes8 zs) (hn : n ≤ 1000) (hc : n ≤ c) :
    Calls Try.prog 24 #[.slice A n c] w (ParsedTo (parseOf zs n) w) := by
  unfold parseOf
  by_cases hedge : n = 0 ∨ 253 < n
  · rw [if_pos hedge]; exact (rparse_edge A n c w hedge).mono fun _ _ h => h.to
  rw [if_neg hedge]
  have h1 : 1 ≤ n := by omega
  have h253 : n ≤ 253 := by omega
  by_cases hk : kKnown (zs.getD 0 0) = false
  · rw [if_pos hk]
    exact (rparse_unknown A n c zs _ w hr hx h253 h1 rfl hk).mono fun _ _ h => h.to
  rw [if_neg hk]
  have hk' : kKnown (zs.getD 0 0) = true := by simpa using hk
  by_cases ha : zs.getD 0 0 = 43 ∧ n = 1
  · rw [if_pos ha, ha.1]
    exact (rparse_alone A n c zs w hr hx h253 h1 ha.1 ha.2).mono fun _ _ h => h.to
  rw [if_neg ha]
  by_cases hb : zs.getD 0 0 = 43 ∧ zs.getD 1 0 ≠ 14
  · rw [if_pos hb, hb.1]
    exact (rparse_14 A n c zs w hr hx h253 h1 hb.1 (by have := hb.1; omega) _ rfl hb.2).mono fun _ _ h => h.to
  rw [if_neg hb]
  have hf : ∀ W, Row .u8 W W.heap.size A n zs → Calls Try.prog 63 #[.slice A n c] W (ReadTo (cand zs n) W) := fun W hW => rread_any A n c zs W hW hx hn h1 hc hk'
  have none_ : (∀ W, Row .u8 W W.heap.size A n zs → Calls Try.prog 63 #[.slice A n c] W (FieldsNo W)) → Calls Try.prog 24 #[.slice A n c] w (ParsedTo (⟨zs.getD 0 0, 0, 0, 0, 0, 0, [], [], 0, 0, 0, 0⟩, 3) w) := by
    intro hg
    by_cases h43 : zs.getD 0 0 = 43
    · rw [h43]
      exact (rparse_none_43 A n c zs w hr hx h253 h1 h43 (by have := fun h => ha ⟨h43, h⟩; omega) (Classical.byContradiction fun h => hb ⟨h43, h⟩) hg).mono fun _ _ h => h.to
    · exact (rparse_none A n c zs _ w hr hx h253 h1 rfl hk' h43 hg).mono fun _ _ h => h.to
  rcases hcd : cand zs n with _ | r
  · rw [hcd] at hf
    exact none_ hf
  · rw [hcd] at hf
    by_cases hrt : r.right
    · show Calls Try.prog _ _ _ (ParsedTo (if r.right then (r, 0) else _) w)
      rw [if_pos hrt]
      have hg : ∀ W, Row .u8 W W.heap.size A n zs → Calls Try.prog 63 #[.slice A n c] W (FieldsYes r.fn r.at_ r.n r.v r.an r.orr r.bs.length r.ws.length r.ra r.rn r.co r.ob r.bs r.ws W) := fun W hW => (hf W hW).mono fun e w' h => by
        have h' : (if r.right then FieldsTo (some r) W e w' else FieldsNo W e w') := h
        rw [if_pos hrt] at h'
        exact h'
      by_cases h43 : zs.getD 0 0 = 43
      · exact (rparse_ok_43 A n c zs w hr hx h253 h1 h43 (by have := fun h => ha ⟨h43, h⟩; omega) (Classical.byContradiction fun h => hb ⟨h43, h⟩) _ _ _ _ _ _ _ _ _ _ _ _ _ _ hg).mono fun _ _ h => h
      · exact (rparse_ok A n c zs _ w hr hx h253 h1 rfl hk' h43 _ _ _ _ _ _ _ _ _ _ _ _ _ _ hg).mono fun _ _ h => h
    · show Calls Try.prog _ _ _ (ParsedTo (if r.right then (r, 0) else _) w)
      rw [if_neg hrt]
      exact none_ fun W hW => (hf W hW).mono fun e w' h => by
        have h' : (if r.right then FieldsTo (some r) W e w' else FieldsNo W e w') := h
        rw [if_neg hrt] at h'
        exact h'

theorem right_small (r : Req) (h : r.right) : r.bs.length ≤ 2000 ∧ r.ws.length ≤ 2000 := by
  obtain ⟨hk, hpl, _, _, hfit⟩ := h
  unfold plainP at hpl
  unfold fitsP at hfit
  have m15 : kMostW 15 = 1968 := rfl
  have m16 : kMostW 16 = 123 := rfl
  have m23 : kMostW 23 = 121 := rfl
  refine ⟨?_, ?_⟩
  · by_cases h15 : r.fn = 15
    · rw [h15] at hfit; omega
    · omega
  · by_cases h16 : r.fn = 16
    · rw [h16] at hfit; omega
    · by_cases h23 : r.fn = 23
      · rw [h23] at hfit; omega
      · omega
theorem parse_small (zs : List Int) (n : Nat) : (parseOf zs n).1.bs.length ≤ 2000 ∧ (parseOf zs n).1.ws.length ≤ 2000 := by
  unfold parseOf
  split
  · simp
  split
  · simp
  split
  · simp
  split
  · simp
  split
  · simp
  · rename_i r _
    split
    · rename_i hr
      exact right_small r hr
    · simp
theorem rparse_lit (zs : List Int) (n c : Nat) (A : Option Addr) (W : World) (fn at_ nn v an orr : Int) (bs : List Bool) (ws : List Int) (ra rn co ob x : Int) (ho : parseOf zs n = (⟨fn, at_, nn, v, an, orr, bs, ws, ra, rn, co, ob⟩, x)) (hr : Row .u8 W W.heap.size A n zs) (hx : Bytes8 zs) (hn : n ≤ 1000) (hc : n ≤ c) :
    Calls Try.prog 24 #[.slice A n c] W fun e w' => ∃ (BA WA : Option Addr) (bc wc : Nat), e = .returned (.tuple #[.agg #[.int .i64 fn, .int .i64 at_, .int .i64 nn, .int .u16 v, .int .u16 an, .int .u16 orr, .slice BA bs.length bc, .slice WA ws.length wc, .int .i64 ra, .int .i64 rn, .int .i64 co, .int .i64 ob], .int .i64 x]) ∧
      w'.ownsRow W.heap.size 4 1 (.slice BA bs.length bc) bs.length (bs.map Value.bool) ∧ w'.ownsRow W.heap.size 22 1 (.slice WA ws.length wc) ws.length (ws.map (Value.int .u16)) ∧ Below W.heap.size W w' := by
  have h := rparse_any A n c zs W hr hx hn hc
  rw [ho] at h
  exact h
theorem lent_front {w : World} {g n : Nat} {zs : List Int} (h : Whole .u8 w g 5 (zs ++ [165, 165, 165])) (hl : zs.length = n) : Row .u8 w w.heap.size (some ⟨g, 0, none⟩) n zs := by
  have hr := h.row
  rw [List.length_append, hl] at hr
  exact hr.front hl

end Go.Proofs.Ytijfeffjjcbijaa

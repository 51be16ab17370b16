/- Package tell: fields and Parse of exceptions, and of what has a wrong length. -/
import Derived.Test.YtijfeffjjcbijaaPFieldT
namespace Go.Proofs.Ytijfeffjjcbijaa
open Go.ChangeShapes Go.WideShapes Go.ChangeAt Go.RowKit
set_option linter.unusedVariables false
set_option linter.unusedSimpArgs false

section
variable (A : Option Addr) (n c : Nat) (zs : List Int) (m : Int) (w : World)

set_option maxRecDepth 100000 in
set_option maxHeartbeats 600000 in
theorem pfT_few (hn : n < 2) :
    Calls Try.prog 92 #[.slice A n c, .int .i64 m] w fun e w' => e = .returned (.tuple #[.agg #[.int .i64 0, .int .i64 0, .slice none 0 0, .slice none 0 0, .int .i64 0, .int .i64 0, .int .u16 0, .int .u16 0, .int .u16 0, .int .i64 0, .int .i64 0, .bool false, .int .i64 0, .slice none 0 0], .bool false]) ∧ Below w.heap.size w w' := by
  have hl' : (n : Int) < 2 := by omega
  go_enter Try.func92, Try.ntmps92
  go_wp2
  exact bodyPost_ret (v := .tuple #[.agg #[.int .i64 0, .int .i64 0, .slice none 0 0, .slice none 0 0, .int .i64 0, .int .i64 0, .int .u16 0, .int .u16 0, .int .u16 0, .int .i64 0, .int .i64 0, .bool false, .int .i64 0, .slice none 0 0], .bool false]) (by simp [results, Try.results92, go_sem]) rfl ⟨rfl, (Below.refl _ _).alloc (Nat.le_refl _) _⟩

set_option maxRecDepth 100000 in
set_option maxHeartbeats 600000 in
theorem pfT_exc (f x : Int) (hr : Row .u8 w w.heap.size A n zs) (hx : Bytes8 zs) (hn : n = 2) (h0 : zs.getD 0 0 = f) (hf : 128 ≤ f) (h1 : zs.getD 1 0 = x) :
    Calls Try.prog 92 #[.slice A n c, .int .i64 m] w fun e w' => e = .returned (.tuple #[.agg #[.int .i64 (f - 128), .int .i64 x, .slice none 0 0, .slice none 0 0, .int .i64 0, .int .i64 0, .int .u16 0, .int .u16 0, .int .u16 0, .int .i64 0, .int .i64 0, .bool false, .int .i64 0, .slice none 0 0], .bool (decide (x ≠ 0))]) ∧ Below w.heap.size w w' := by
  subst hn
  obtain ⟨b, off, rfl, hb, hcell⟩ := hr.2 (by omega)
  have hc0' : w.cell? ⟨b, off, none⟩ = some (.int .u8 f) := by
    have := hcell 0 (by omega)
    rwa [Nat.add_zero, h0] at this
  have hc1' := hcell 1 (by omega)
  rw [h1] at hc1'
  have hc0 : (w.alloc (.cells #[.int .i64 0, .int .i64 0, .slice none 0 0, .slice none 0 0, .int .i64 0, .int .i64 0, .int .u16 0, .int .u16 0, .int .u16 0, .int .i64 0, .int .i64 0, .bool false, .int .i64 0, .slice none 0 0] 64)).cell? ⟨b, off, none⟩ = some (.int .u8 f) := by
    rw [World.cell?_alloc_lt w _ ⟨b, off, none⟩ hb]
    exact hc0'
  have hbf := hx.at_ 0
  change 0 ≤ zs.getD 0 0 ∧ zs.getD 0 0 ≤ 255 at hbf
  rw [h0] at hbf
  have f1 := hbf.2
  have hbx := hx.at_ 1
  change 0 ≤ zs.getD 1 0 ∧ zs.getD 1 0 ≤ 255 at hbx
  rw [h1] at hbx
  have x0 := hbx.1
  have x1 := hbx.2
  have ea : bits .andNot .u8 f 128 = f - 128 := by rw [andNot128 f (by omega) f1]; omega
  have eb : bits .and .u8 f 128 = 128 := by rw [and128 f (by omega) f1]; omega
  have hkw : Below w.heap.size w (w.alloc (.cells #[.int .i64 0, .int .i64 0, .slice none 0 0, .slice none 0 0, .int .i64 0, .int .i64 0, .int .u16 0, .int .u16 0, .int .u16 0, .int .i64 0, .int .i64 0, .bool false, .int .i64 0, .slice none 0 0] 64)) := (Below.refl _ _).alloc (Nat.le_refl _) _
  have HR := Lib.hid ((hr.below hkw).more hkw.size)
  have HX := Lib.hid hx
  have H0 := Lib.hid h0
  have HNo : Hid (NoFn f) := by constructor <;> omega
  clear hr hx hcell h0 h1 hbf hbx hkw
  go_enter Try.func92, Try.ntmps92
  go_wp2_with (go_at_call 119; refine (psz_no _ 2 c zs _ f HR.out HX.out (by omega) (by omega) H0.out HNo.out).mono ?_; rintro e w' ⟨rfl, rfl⟩)
  go_region_with fail
  all_goals
    go_wp2
    refine bodyPost_ret (v := .tuple #[.agg #[.int .i64 (f - 128), .int .i64 x, .slice none 0 0, .slice none 0 0, .int .i64 0, .int .i64 0, .int .u16 0, .int .u16 0, .int .u16 0, .int .i64 0, .int .i64 0, .bool false, .int .i64 0, .slice none 0 0], .bool (decide (x ≠ 0))]) (by simp [results, Try.results92, go_sem]; rfl) rfl ⟨rfl, ?_⟩
    exact below_drewN (((Below.refl _ _).alloc (Nat.le_refl _) _).alloc (by simp) _) 1
end

end Go.Proofs.Ytijfeffjjcbijaa

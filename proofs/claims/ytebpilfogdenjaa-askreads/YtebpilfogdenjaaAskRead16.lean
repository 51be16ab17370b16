/- The document's read of a request. -/
import Derived.Test.YtebpilfogdenjaaAskSet
namespace Go.Proofs.Ytebpilfogdenjaa
open Go.ChangeShapes Go.WideShapes Go.ChangeAt Go.RowKit
set_option linter.unusedVariables false
set_option linter.unusedSimpArgs false

set_option maxRecDepth 100000 in
set_option maxHeartbeats 4000000 in
theorem rread_16_few (A : Option Addr) (n c : Nat) (zs : List Int) (w : World) (hr : Row .u8 w w.heap.size A n zs) (hx : Bytes8 zs) (hn : n ≤ 1000) (h1 : 1 ≤ n) (h0 : zs.getD 0 0 = 16) (h6 : n < 6) :
    Calls Try.prog 25 #[.slice A n c] w fun e w' => e = .returned (.tuple #[.agg #[.int .i64 16, .int .i64 0, .int .i64 0, .int .u16 0, .int .u16 0, .int .u16 0, .slice none 0 0, .slice none 0 0, .int .i64 0, .int .i64 0, .int .i64 0, .int .i64 0], .bool false]) ∧ Below w.heap.size w w' := by
  obtain ⟨b, off, rfl, hb, hcell⟩ := hr.2 (by omega)
  have hc0 : (w.alloc (.cells #[.int .i64 0, .int .i64 0, .int .i64 0, .int .u16 0, .int .u16 0, .int .u16 0, .slice none 0 0, .slice none 0 0, .int .i64 0, .int .i64 0, .int .i64 0, .int .i64 0] 30)).cell? ⟨b, off, none⟩ = some (.int .u8 16) := by
    rw [World.cell?_alloc_lt w _ ⟨b, off, none⟩ hb]
    have := hcell 0 (by omega)
    rw [Nat.add_zero, h0] at this
    exact this
  have hn0 : (0 : Int) < (n : Int) := by omega
  have hkw : Below w.heap.size w ((w.alloc (.cells #[.int .i64 0, .int .i64 0, .int .i64 0, .int .u16 0, .int .u16 0, .int .u16 0, .slice none 0 0, .slice none 0 0, .int .i64 0, .int .i64 0, .int .i64 0, .int .i64 0] 30)).alloc (.cells #[.int .i64 16, .int .i64 0, .int .i64 0, .int .u16 0, .int .u16 0, .int .u16 0, .slice none 0 0, .slice none 0 0, .int .i64 0, .int .i64 0, .int .i64 0, .int .i64 0] 30)) := ((Below.refl _ _).alloc (Nat.le_refl _) _).alloc (by simp) _
  have HKW := Lib.hid hkw
  have HG4 : Hid (WholeV ((w.alloc (.cells #[.int .i64 0, .int .i64 0, .int .i64 0, .int .u16 0, .int .u16 0, .int .u16 0, .slice none 0 0, .slice none 0 0, .int .i64 0, .int .i64 0, .int .i64 0, .int .i64 0] 30)).alloc (.cells #[.int .i64 16, .int .i64 0, .int .i64 0, .int .u16 0, .int .u16 0, .int .u16 0, .slice none 0 0, .slice none 0 0, .int .i64 0, .int .i64 0, .int .i64 0, .int .i64 0] 30)) (w.heap.size + 1) 30 [.int .i64 16, .int .i64 0, .int .i64 0, .int .u16 0, .int .u16 0, .int .u16 0, .slice none 0 0, .slice none 0 0, .int .i64 0, .int .i64 0, .int .i64 0, .int .i64 0]) := by
    have h := heap_alloc_new (w.alloc (.cells #[.int .i64 0, .int .i64 0, .int .i64 0, .int .u16 0, .int .u16 0, .int .u16 0, .slice none 0 0, .slice none 0 0, .int .i64 0, .int .i64 0, .int .i64 0, .int .i64 0] 30)) (.cells #[.int .i64 16, .int .i64 0, .int .i64 0, .int .u16 0, .int .u16 0, .int .u16 0, .slice none 0 0, .slice none 0 0, .int .i64 0, .int .i64 0, .int .i64 0, .int .i64 0] 30)
    rwa [show (w.alloc (.cells #[.int .i64 0, .int .i64 0, .int .i64 0, .int .u16 0, .int .u16 0, .int .u16 0, .slice none 0 0, .slice none 0 0, .int .i64 0, .int .i64 0, .int .i64 0, .int .i64 0] 30)).heap.size = w.heap.size + 1 by simp] at h
  have HG2 : Hid (WholeV ((w.alloc (.cells #[.int .i64 0, .int .i64 0, .int .i64 0, .int .u16 0, .int .u16 0, .int .u16 0, .slice none 0 0, .slice none 0 0, .int .i64 0, .int .i64 0, .int .i64 0, .int .i64 0] 30)).alloc (.cells #[.int .i64 16, .int .i64 0, .int .i64 0, .int .u16 0, .int .u16 0, .int .u16 0, .slice none 0 0, .slice none 0 0, .int .i64 0, .int .i64 0, .int .i64 0, .int .i64 0] 30)) w.heap.size 30 [.int .i64 0, .int .i64 0, .int .i64 0, .int .u16 0, .int .u16 0, .int .u16 0, .slice none 0 0, .slice none 0 0, .int .i64 0, .int .i64 0, .int .i64 0, .int .i64 0]) := by
    have h : WholeV (w.alloc (.cells #[.int .i64 0, .int .i64 0, .int .i64 0, .int .u16 0, .int .u16 0, .int .u16 0, .slice none 0 0, .slice none 0 0, .int .i64 0, .int .i64 0, .int .i64 0, .int .i64 0] 30)) w.heap.size 30 [.int .i64 0, .int .i64 0, .int .i64 0, .int .u16 0, .int .u16 0, .int .u16 0, .slice none 0 0, .slice none 0 0, .int .i64 0, .int .i64 0, .int .i64 0, .int .i64 0] := heap_alloc_new w _
    exact h.below ((Below.refl _ _).alloc (Nat.le_refl _) _) (by simp)
  have HR := Lib.hid ((hr.below hkw).more hkw.size)
  have HX := Lib.hid hx
  clear hr hx hcell hkw
  go_enter Try.func25, Try.ntmps25
  go_wp2
  exact bodyPost_ret (v := .tuple #[.agg #[.int .i64 16, .int .i64 0, .int .i64 0, .int .u16 0, .int .u16 0, .int .u16 0, .slice none 0 0, .slice none 0 0, .int .i64 0, .int .i64 0, .int .i64 0, .int .i64 0], .bool false]) (by simp [results, Try.results25, go_sem]) rfl ⟨rfl, ((Below.refl _ _).alloc (Nat.le_refl _) _).alloc (by simp) _⟩

set_option maxRecDepth 100000 in
set_option maxHeartbeats 4000000 in
theorem rread_16_len (A : Option Addr) (n c : Nat) (zs : List Int) (t l : Int) (w : World) (hr : Row .u8 w w.heap.size A n zs) (hx : Bytes8 zs) (hn : n ≤ 1000) (h1 : 1 ≤ n) (h0 : zs.getD 0 0 = 16) (ht : gotW zs n 1 = t) (hl : gotW zs n 3 = l) (h6 : 6 ≤ n) (hln : (n : Int) ≠ 6 + 2 * l) :
    Calls Try.prog 25 #[.slice A n c] w fun e w' => e = .returned (.tuple #[.agg #[.int .i64 16, .int .i64 t, .int .i64 l, .int .u16 0, .int .u16 0, .int .u16 0, .slice none 0 0, .slice none 0 0, .int .i64 0, .int .i64 0, .int .i64 0, .int .i64 0], .bool false]) ∧ Below w.heap.size w w' := by
  obtain ⟨lot, hit⟩ := gotW_bounds hx n 1
  rw [ht] at lot hit
  obtain ⟨lol, hil⟩ := gotW_bounds hx n 3
  rw [hl] at lol hil
  obtain ⟨b, off, rfl, hb, hcell⟩ := hr.2 (by omega)
  have hc0 : (w.alloc (.cells #[.int .i64 0, .int .i64 0, .int .i64 0, .int .u16 0, .int .u16 0, .int .u16 0, .slice none 0 0, .slice none 0 0, .int .i64 0, .int .i64 0, .int .i64 0, .int .i64 0] 30)).cell? ⟨b, off, none⟩ = some (.int .u8 16) := by
    rw [World.cell?_alloc_lt w _ ⟨b, off, none⟩ hb]
    have := hcell 0 (by omega)
    rw [Nat.add_zero, h0] at this
    exact this
  have hn0 : (0 : Int) < (n : Int) := by omega
  have hkw : Below w.heap.size w ((w.alloc (.cells #[.int .i64 0, .int .i64 0, .int .i64 0, .int .u16 0, .int .u16 0, .int .u16 0, .slice none 0 0, .slice none 0 0, .int .i64 0, .int .i64 0, .int .i64 0, .int .i64 0] 30)).alloc (.cells #[.int .i64 16, .int .i64 0, .int .i64 0, .int .u16 0, .int .u16 0, .int .u16 0, .slice none 0 0, .slice none 0 0, .int .i64 0, .int .i64 0, .int .i64 0, .int .i64 0] 30)) := ((Below.refl _ _).alloc (Nat.le_refl _) _).alloc (by simp) _
  have HKW := Lib.hid hkw
  have HG4 : Hid (WholeV ((w.alloc (.cells #[.int .i64 0, .int .i64 0, .int .i64 0, .int .u16 0, .int .u16 0, .int .u16 0, .slice none 0 0, .slice none 0 0, .int .i64 0, .int .i64 0, .int .i64 0, .int .i64 0] 30)).alloc (.cells #[.int .i64 16, .int .i64 0, .int .i64 0, .int .u16 0, .int .u16 0, .int .u16 0, .slice none 0 0, .slice none 0 0, .int .i64 0, .int .i64 0, .int .i64 0, .int .i64 0] 30)) (w.heap.size + 1) 30 [.int .i64 16, .int .i64 0, .int .i64 0, .int .u16 0, .int .u16 0, .int .u16 0, .slice none 0 0, .slice none 0 0, .int .i64 0, .int .i64 0, .int .i64 0, .int .i64 0]) := by
    have h := heap_alloc_new (w.alloc (.cells #[.int .i64 0, .int .i64 0, .int .i64 0, .int .u16 0, .int .u16 0, .int .u16 0, .slice none 0 0, .slice none 0 0, .int .i64 0, .int .i64 0, .int .i64 0, .int .i64 0] 30)) (.cells #[.int .i64 16, .int .i64 0, .int .i64 0, .int .u16 0, .int .u16 0, .int .u16 0, .slice none 0 0, .slice none 0 0, .int .i64 0, .int .i64 0, .int .i64 0, .int .i64 0] 30)
    rwa [show (w.alloc (.cells #[.int .i64 0, .int .i64 0, .int .i64 0, .int .u16 0, .int .u16 0, .int .u16 0, .slice none 0 0, .slice none 0 0, .int .i64 0, .int .i64 0, .int .i64 0, .int .i64 0] 30)).heap.size = w.heap.size + 1 by simp] at h
  have HG2 : Hid (WholeV ((w.alloc (.cells #[.int .i64 0, .int .i64 0, .int .i64 0, .int .u16 0, .int .u16 0, .int .u16 0, .slice none 0 0, .slice none 0 0, .int .i64 0, .int .i64 0, .int .i64 0, .int .i64 0] 30)).alloc (.cells #[.int .i64 16, .int .i64 0, .int .i64 0, .int .u16 0, .int .u16 0, .int .u16 0, .slice none 0 0, .slice none 0 0, .int .i64 0, .int .i64 0, .int .i64 0, .int .i64 0] 30)) w.heap.size 30 [.int .i64 0, .int .i64 0, .int .i64 0, .int .u16 0, .int .u16 0, .int .u16 0, .slice none 0 0, .slice none 0 0, .int .i64 0, .int .i64 0, .int .i64 0, .int .i64 0]) := by
    have h : WholeV (w.alloc (.cells #[.int .i64 0, .int .i64 0, .int .i64 0, .int .u16 0, .int .u16 0, .int .u16 0, .slice none 0 0, .slice none 0 0, .int .i64 0, .int .i64 0, .int .i64 0, .int .i64 0] 30)) w.heap.size 30 [.int .i64 0, .int .i64 0, .int .i64 0, .int .u16 0, .int .u16 0, .int .u16 0, .slice none 0 0, .slice none 0 0, .int .i64 0, .int .i64 0, .int .i64 0, .int .i64 0] := heap_alloc_new w _
    exact h.below ((Below.refl _ _).alloc (Nat.le_refl _) _) (by simp)
  have HR := Lib.hid ((hr.below hkw).more hkw.size)
  have HX := Lib.hid hx
  have HRG : Hid (∀ X, Below w.heap.size w X → Row .u8 X X.heap.size (some ⟨b, off, none⟩) n zs) := fun X hX => (hr.below hX).more hX.size
  clear hr hx hcell hkw
  have Ht := Lib.hid ht
  have Hl := Lib.hid hl
  clear ht hl
  have HLn := Lib.hid hln
  clear hln
  have h6' : ¬ (n : Int) < 6 := by omega
  go_enter Try.func25, Try.ntmps25
  go_wp2_with (first
    | (go_at_call 48; (with_reducible refine (rword_any (some ⟨b, off, none⟩) n c zs 1 t _ Ht.out HR.out HX.out (by omega)).mono ?_); rintro e w' ⟨rfl, d1, rfl⟩)
    | (go_at_call 48; (with_reducible refine (rword_any (some ⟨b, off, none⟩) n c zs 3 l _ Hl.out (HR.out.drewN _) HX.out (by omega)).mono ?_); rintro e w' ⟨rfl, d3, rfl⟩)
    | (go_at_call 51; refine (rlist_no _ n c 6 l _ (by omega) (by omega) lol hil HLn.out).mono ?_; rintro e w' ⟨rfl, rfl⟩))
  go_quiet (fail)
  all_goals go_wp2
  obtain ⟨w3, hw3⟩ : ∃ w3, (((((((w.alloc (.cells #[.int .i64 0, .int .i64 0, .int .i64 0, .int .u16 0, .int .u16 0, .int .u16 0, .slice none 0 0, .slice none 0 0, .int .i64 0, .int .i64 0, .int .i64 0, .int .i64 0] 30)).alloc (.cells #[.int .i64 16, .int .i64 0, .int .i64 0, .int .u16 0, .int .u16 0, .int .u16 0, .slice none 0 0, .slice none 0 0, .int .i64 0, .int .i64 0, .int .i64 0, .int .i64 0] 30)).drewN (d1 + d3)).setCell ⟨w.heap.size + 1, 1, none⟩ (.int .i64 t)).setCell ⟨w.heap.size + 1, 2, none⟩ (.int .i64 l)).setCell ⟨w.heap.size + 1, 7, none⟩ (.slice none 0 0)).drewN nq) = w3 := ⟨_, rfl⟩
  have hbel : Below (w.heap.size + 1) ((w.alloc (.cells #[.int .i64 0, .int .i64 0, .int .i64 0, .int .u16 0, .int .u16 0, .int .u16 0, .slice none 0 0, .slice none 0 0, .int .i64 0, .int .i64 0, .int .i64 0, .int .i64 0] 30)).alloc (.cells #[.int .i64 16, .int .i64 0, .int .i64 0, .int .u16 0, .int .u16 0, .int .u16 0, .slice none 0 0, .slice none 0 0, .int .i64 0, .int .i64 0, .int .i64 0, .int .i64 0] 30)) w3 := by rw [← hw3]; exact (below_drewN ((((below_drewN (Below.refl (w.heap.size + 1) _) (d1 + d3)).setCell (p := ⟨w.heap.size + 1, 1, none⟩) (Nat.le_refl _) (.int .i64 t)).setCell (p := ⟨w.heap.size + 1, 2, none⟩) (Nat.le_refl _) (.int .i64 l)).setCell (p := ⟨w.heap.size + 1, 7, none⟩) (Nat.le_refl _) (.slice none 0 0)) nq)
  have ha4 : WholeV w3 (w.heap.size + 1) 30 [.int .i64 16, .int .i64 t, .int .i64 l, .int .u16 0, .int .u16 0, .int .u16 0, .slice none 0 0, .slice none 0 0, .int .i64 0, .int .i64 0, .int .i64 0, .int .i64 0] := by rw [← hw3]; exact (((((HG4.out.drewN (d1 + d3)).set 1 (.int .i64 t)).set 2 (.int .i64 l)).set 7 (.slice none 0 0)).drewN nq)
  have ha2 : WholeV w3 w.heap.size 30 [.int .i64 0, .int .i64 0, .int .i64 0, .int .u16 0, .int .u16 0, .int .u16 0, .slice none 0 0, .slice none 0 0, .int .i64 0, .int .i64 0, .int .i64 0, .int .i64 0] := HG2.out.below hbel (by omega)
  have hab : Below w.heap.size w w3 := HKW.out.trans (hbel.mono (by omega))
  have hz3 : w.heap.size + 2 ≤ w3.heap.size := ha4.lt
  rw [hw3]
  have HA2 := Lib.hid ha2
  have HAB := Lib.hid hab
  obtain ⟨hq0, hq1, hq2, hq3, hq4, hq5, hq6, hq7, hq8, hq9, hq10, hq11⟩ := cells12 ha4
  obtain ⟨hp0, hp1, hp2, hp3, hp4, hp5, hp6, hp7, hp8, hp9, hp10, hp11⟩ := cells12 ha2
  obtain ⟨hf0, hf1, hf2, hf3, hf4, hf5, hf6, hf7, hf8, hf9, hf10, hf11⟩ := frozen12 ha2
  obtain ⟨w9, hw9, hwh, hbb⟩ := set12 ha2 hab (.int .i64 16) (.int .i64 t) (.int .i64 l) (.int .u16 0) (.int .u16 0) (.int .u16 0) (.slice none 0 0) (.slice none 0 0) (.int .i64 0) (.int .i64 0) (.int .i64 0) (.int .i64 0) rfl
  have HE := Lib.hid (cells12 hwh)
  have HBB := Lib.hid hbb
  have HW9 := Lib.hid hw9
  clear hwh hbb hw9
  clear ha2 ha4 hw3 hbel hab HR HX HRG HG4 HG2 HKW
  first | go_region_with (fail) | skip
  all_goals
    go_wp2
    rw [HW9.out]
    obtain ⟨he0, he1, he2, he3, he4, he5, he6, he7, he8, he9, he10, he11⟩ := HE.out
    exact bodyPost_ret (v := .tuple #[.agg #[.int .i64 16, .int .i64 t, .int .i64 l, .int .u16 0, .int .u16 0, .int .u16 0, .slice none 0 0, .slice none 0 0, .int .i64 0, .int .i64 0, .int .i64 0, .int .i64 0], .bool false]) (by simp [results, Try.results25, go_sem, he0, he1, he2, he3, he4, he5, he6, he7, he8, he9, he10, he11]) rfl ⟨rfl, HBB.out.drew⟩

set_option maxRecDepth 100000 in
set_option maxHeartbeats 4000000 in
theorem rread_23_few (A : Option Addr) (n c : Nat) (zs : List Int) (w : World) (hr : Row .u8 w w.heap.size A n zs) (hx : Bytes8 zs) (hn : n ≤ 1000) (h1 : 1 ≤ n) (h0 : zs.getD 0 0 = 23) (h6 : n < 10) :
    Calls Try.prog 25 #[.slice A n c] w fun e w' => e = .returned (.tuple #[.agg #[.int .i64 23, .int .i64 0, .int .i64 0, .int .u16 0, .int .u16 0, .int .u16 0, .slice none 0 0, .slice none 0 0, .int .i64 0, .int .i64 0, .int .i64 0, .int .i64 0], .bool false]) ∧ Below w.heap.size w w' := by
  obtain ⟨b, off, rfl, hb, hcell⟩ := hr.2 (by omega)
  have hc0 : (w.alloc (.cells #[.int .i64 0, .int .i64 0, .int .i64 0, .int .u16 0, .int .u16 0, .int .u16 0, .slice none 0 0, .slice none 0 0, .int .i64 0, .int .i64 0, .int .i64 0, .int .i64 0] 30)).cell? ⟨b, off, none⟩ = some (.int .u8 23) := by
    rw [World.cell?_alloc_lt w _ ⟨b, off, none⟩ hb]
    have := hcell 0 (by omega)
    rw [Nat.add_zero, h0] at this
    exact this
  have hn0 : (0 : Int) < (n : Int) := by omega
  have hkw : Below w.heap.size w ((w.alloc (.cells #[.int .i64 0, .int .i64 0, .int .i64 0, .int .u16 0, .int .u16 0, .int .u16 0, .slice none 0 0, .slice none 0 0, .int .i64 0, .int .i64 0, .int .i64 0, .int .i64 0] 30)).alloc (.cells #[.int .i64 23, .int .i64 0, .int .i64 0, .int .u16 0, .int .u16 0, .int .u16 0, .slice none 0 0, .slice none 0 0, .int .i64 0, .int .i64 0, .int .i64 0, .int .i64 0] 30)) := ((Below.refl _ _).alloc (Nat.le_refl _) _).alloc (by simp) _
  have HKW := Lib.hid hkw
  have HG4 : Hid (WholeV ((w.alloc (.cells #[.int .i64 0, .int .i64 0, .int .i64 0, .int .u16 0, .int .u16 0, .int .u16 0, .slice none 0 0, .slice none 0 0, .int .i64 0, .int .i64 0, .int .i64 0, .int .i64 0] 30)).alloc (.cells #[.int .i64 23, .int .i64 0, .int .i64 0, .int .u16 0, .int .u16 0, .int .u16 0, .slice none 0 0, .slice none 0 0, .int .i64 0, .int .i64 0, .int .i64 0, .int .i64 0] 30)) (w.heap.size + 1) 30 [.int .i64 23, .int .i64 0, .int .i64 0, .int .u16 0, .int .u16 0, .int .u16 0, .slice none 0 0, .slice none 0 0, .int .i64 0, .int .i64 0, .int .i64 0, .int .i64 0]) := by
    have h := heap_alloc_new (w.alloc (.cells #[.int .i64 0, .int .i64 0, .int .i64 0, .int .u16 0, .int .u16 0, .int .u16 0, .slice none 0 0, .slice none 0 0, .int .i64 0, .int .i64 0, .int .i64 0, .int .i64 0] 30)) (.cells #[.int .i64 23, .int .i64 0, .int .i64 0, .int .u16 0, .int .u16 0, .int .u16 0, .slice none 0 0, .slice none 0 0, .int .i64 0, .int .i64 0, .int .i64 0, .int .i64 0] 30)
    rwa [show (w.alloc (.cells #[.int .i64 0, .int .i64 0, .int .i64 0, .int .u16 0, .int .u16 0, .int .u16 0, .slice none 0 0, .slice none 0 0, .int .i64 0, .int .i64 0, .int .i64 0, .int .i64 0] 30)).heap.size = w.heap.size + 1 by simp] at h
  have HG2 : Hid (WholeV ((w.alloc (.cells #[.int .i64 0, .int .i64 0, .int .i64 0, .int .u16 0, .int .u16 0, .int .u16 0, .slice none 0 0, .slice none 0 0, .int .i64 0, .int .i64 0, .int .i64 0, .int .i64 0] 30)).alloc (.cells #[.int .i64 23, .int .i64 0, .int .i64 0, .int .u16 0, .int .u16 0, .int .u16 0, .slice none 0 0, .slice none 0 0, .int .i64 0, .int .i64 0, .int .i64 0, .int .i64 0] 30)) w.heap.size 30 [.int .i64 0, .int .i64 0, .int .i64 0, .int .u16 0, .int .u16 0, .int .u16 0, .slice none 0 0, .slice none 0 0, .int .i64 0, .int .i64 0, .int .i64 0, .int .i64 0]) := by
    have h : WholeV (w.alloc (.cells #[.int .i64 0, .int .i64 0, .int .i64 0, .int .u16 0, .int .u16 0, .int .u16 0, .slice none 0 0, .slice none 0 0, .int .i64 0, .int .i64 0, .int .i64 0, .int .i64 0] 30)) w.heap.size 30 [.int .i64 0, .int .i64 0, .int .i64 0, .int .u16 0, .int .u16 0, .int .u16 0, .slice none 0 0, .slice none 0 0, .int .i64 0, .int .i64 0, .int .i64 0, .int .i64 0] := heap_alloc_new w _
    exact h.below ((Below.refl _ _).alloc (Nat.le_refl _) _) (by simp)
  have HR := Lib.hid ((hr.below hkw).more hkw.size)
  have HX := Lib.hid hx
  clear hr hx hcell hkw
  go_enter Try.func25, Try.ntmps25
  go_wp2
  exact bodyPost_ret (v := .tuple #[.agg #[.int .i64 23, .int .i64 0, .int .i64 0, .int .u16 0, .int .u16 0, .int .u16 0, .slice none 0 0, .slice none 0 0, .int .i64 0, .int .i64 0, .int .i64 0, .int .i64 0], .bool false]) (by simp [results, Try.results25, go_sem]) rfl ⟨rfl, ((Below.refl _ _).alloc (Nat.le_refl _) _).alloc (by simp) _⟩

set_option maxRecDepth 100000 in
set_option maxHeartbeats 4000000 in
theorem rread_23_len (A : Option Addr) (n c : Nat) (zs : List Int) (p q t l : Int) (w : World) (hr : Row .u8 w w.heap.size A n zs) (hx : Bytes8 zs) (hn : n ≤ 1000) (h1 : 1 ≤ n) (h0 : zs.getD 0 0 = 23) (hp : gotW zs n 1 = p) (hq : gotW zs n 3 = q) (ht : gotW zs n 5 = t) (hl : gotW zs n 7 = l) (h6 : 10 ≤ n) (hln : (n : Int) ≠ 10 + 2 * l) :
    Calls Try.prog 25 #[.slice A n c] w fun e w' => e = .returned (.tuple #[.agg #[.int .i64 23, .int .i64 t, .int .i64 l, .int .u16 0, .int .u16 0, .int .u16 0, .slice none 0 0, .slice none 0 0, .int .i64 p, .int .i64 q, .int .i64 0, .int .i64 0], .bool false]) ∧ Below w.heap.size w w' := by
  obtain ⟨lop, hip⟩ := gotW_bounds hx n 1
  rw [hp] at lop hip
  obtain ⟨loq, hiq⟩ := gotW_bounds hx n 3
  rw [hq] at loq hiq
  obtain ⟨lot, hit⟩ := gotW_bounds hx n 5
  rw [ht] at lot hit
  obtain ⟨lol, hil⟩ := gotW_bounds hx n 7
  rw [hl] at lol hil
  obtain ⟨b, off, rfl, hb, hcell⟩ := hr.2 (by omega)
  have hc0 : (w.alloc (.cells #[.int .i64 0, .int .i64 0, .int .i64 0, .int .u16 0, .int .u16 0, .int .u16 0, .slice none 0 0, .slice none 0 0, .int .i64 0, .int .i64 0, .int .i64 0, .int .i64 0] 30)).cell? ⟨b, off, none⟩ = some (.int .u8 23) := by
    rw [World.cell?_alloc_lt w _ ⟨b, off, none⟩ hb]
    have := hcell 0 (by omega)
    rw [Nat.add_zero, h0] at this
    exact this
  have hn0 : (0 : Int) < (n : Int) := by omega
  have hkw : Below w.heap.size w ((w.alloc (.cells #[.int .i64 0, .int .i64 0, .int .i64 0, .int .u16 0, .int .u16 0, .int .u16 0, .slice none 0 0, .slice none 0 0, .int .i64 0, .int .i64 0, .int .i64 0, .int .i64 0] 30)).alloc (.cells #[.int .i64 23, .int .i64 0, .int .i64 0, .int .u16 0, .int .u16 0, .int .u16 0, .slice none 0 0, .slice none 0 0, .int .i64 0, .int .i64 0, .int .i64 0, .int .i64 0] 30)) := ((Below.refl _ _).alloc (Nat.le_refl _) _).alloc (by simp) _
  have HKW := Lib.hid hkw
  have HG4 : Hid (WholeV ((w.alloc (.cells #[.int .i64 0, .int .i64 0, .int .i64 0, .int .u16 0, .int .u16 0, .int .u16 0, .slice none 0 0, .slice none 0 0, .int .i64 0, .int .i64 0, .int .i64 0, .int .i64 0] 30)).alloc (.cells #[.int .i64 23, .int .i64 0, .int .i64 0, .int .u16 0, .int .u16 0, .int .u16 0, .slice none 0 0, .slice none 0 0, .int .i64 0, .int .i64 0, .int .i64 0, .int .i64 0] 30)) (w.heap.size + 1) 30 [.int .i64 23, .int .i64 0, .int .i64 0, .int .u16 0, .int .u16 0, .int .u16 0, .slice none 0 0, .slice none 0 0, .int .i64 0, .int .i64 0, .int .i64 0, .int .i64 0]) := by
    have h := heap_alloc_new (w.alloc (.cells #[.int .i64 0, .int .i64 0, .int .i64 0, .int .u16 0, .int .u16 0, .int .u16 0, .slice none 0 0, .slice none 0 0, .int .i64 0, .int .i64 0, .int .i64 0, .int .i64 0] 30)) (.cells #[.int .i64 23, .int .i64 0, .int .i64 0, .int .u16 0, .int .u16 0, .int .u16 0, .slice none 0 0, .slice none 0 0, .int .i64 0, .int .i64 0, .int .i64 0, .int .i64 0] 30)
    rwa [show (w.alloc (.cells #[.int .i64 0, .int .i64 0, .int .i64 0, .int .u16 0, .int .u16 0, .int .u16 0, .slice none 0 0, .slice none 0 0, .int .i64 0, .int .i64 0, .int .i64 0, .int .i64 0] 30)).heap.size = w.heap.size + 1 by simp] at h
  have HG2 : Hid (WholeV ((w.alloc (.cells #[.int .i64 0, .int .i64 0, .int .i64 0, .int .u16 0, .int .u16 0, .int .u16 0, .slice none 0 0, .slice none 0 0, .int .i64 0, .int .i64 0, .int .i64 0, .int .i64 0] 30)).alloc (.cells #[.int .i64 23, .int .i64 0, .int .i64 0, .int .u16 0, .int .u16 0, .int .u16 0, .slice none 0 0, .slice none 0 0, .int .i64 0, .int .i64 0, .int .i64 0, .int .i64 0] 30)) w.heap.size 30 [.int .i64 0, .int .i64 0, .int .i64 0, .int .u16 0, .int .u16 0, .int .u16 0, .slice none 0 0, .slice none 0 0, .int .i64 0, .int .i64 0, .int .i64 0, .int .i64 0]) := by
    have h : WholeV (w.alloc (.cells #[.int .i64 0, .int .i64 0, .int .i64 0, .int .u16 0, .int .u16 0, .int .u16 0, .slice none 0 0, .slice none 0 0, .int .i64 0, .int .i64 0, .int .i64 0, .int .i64 0] 30)) w.heap.size 30 [.int .i64 0, .int .i64 0, .int .i64 0, .int .u16 0, .int .u16 0, .int .u16 0, .slice none 0 0, .slice none 0 0, .int .i64 0, .int .i64 0, .int .i64 0, .int .i64 0] := heap_alloc_new w _
    exact h.below ((Below.refl _ _).alloc (Nat.le_refl _) _) (by simp)
  have HR := Lib.hid ((hr.below hkw).more hkw.size)
  have HX := Lib.hid hx
  have HRG : Hid (∀ X, Below w.heap.size w X → Row .u8 X X.heap.size (some ⟨b, off, none⟩) n zs) := fun X hX => (hr.below hX).more hX.size
  clear hr hx hcell hkw
  have Hp := Lib.hid hp
  have Hq := Lib.hid hq
  have Ht := Lib.hid ht
  have Hl := Lib.hid hl
  clear hp hq ht hl
  have HLn := Lib.hid hln
  clear hln
  have h6' : ¬ (n : Int) < 10 := by omega
  go_enter Try.func25, Try.ntmps25
  go_wp2_with (first
    | (go_at_call 48; (with_reducible refine (rword_any (some ⟨b, off, none⟩) n c zs 1 p _ Hp.out HR.out HX.out (by omega)).mono ?_); rintro e w' ⟨rfl, d1, rfl⟩)
    | (go_at_call 48; (with_reducible refine (rword_any (some ⟨b, off, none⟩) n c zs 3 q _ Hq.out (HR.out.drewN _) HX.out (by omega)).mono ?_); rintro e w' ⟨rfl, d3, rfl⟩)
    | (go_at_call 48; (with_reducible refine (rword_any (some ⟨b, off, none⟩) n c zs 5 t _ Ht.out (HR.out.drewN _) HX.out (by omega)).mono ?_); rintro e w' ⟨rfl, d5, rfl⟩)
    | (go_at_call 48; (with_reducible refine (rword_any (some ⟨b, off, none⟩) n c zs 7 l _ Hl.out (HR.out.drewN _) HX.out (by omega)).mono ?_); rintro e w' ⟨rfl, d7, rfl⟩)
    | (go_at_call 51; refine (rlist_no _ n c 10 l _ (by omega) (by omega) lol hil HLn.out).mono ?_; rintro e w' ⟨rfl, rfl⟩))
  go_quiet (fail)
  all_goals go_wp2
  obtain ⟨w3, hw3⟩ : ∃ w3, (((((((((w.alloc (.cells #[.int .i64 0, .int .i64 0, .int .i64 0, .int .u16 0, .int .u16 0, .int .u16 0, .slice none 0 0, .slice none 0 0, .int .i64 0, .int .i64 0, .int .i64 0, .int .i64 0] 30)).alloc (.cells #[.int .i64 23, .int .i64 0, .int .i64 0, .int .u16 0, .int .u16 0, .int .u16 0, .slice none 0 0, .slice none 0 0, .int .i64 0, .int .i64 0, .int .i64 0, .int .i64 0] 30)).drewN (d1 + d3 + d5 + d7)).setCell ⟨w.heap.size + 1, 8, none⟩ (.int .i64 p)).setCell ⟨w.heap.size + 1, 9, none⟩ (.int .i64 q)).setCell ⟨w.heap.size + 1, 1, none⟩ (.int .i64 t)).setCell ⟨w.heap.size + 1, 2, none⟩ (.int .i64 l)).setCell ⟨w.heap.size + 1, 7, none⟩ (.slice none 0 0)).drewN nq) = w3 := ⟨_, rfl⟩
  have hbel : Below (w.heap.size + 1) ((w.alloc (.cells #[.int .i64 0, .int .i64 0, .int .i64 0, .int .u16 0, .int .u16 0, .int .u16 0, .slice none 0 0, .slice none 0 0, .int .i64 0, .int .i64 0, .int .i64 0, .int .i64 0] 30)).alloc (.cells #[.int .i64 23, .int .i64 0, .int .i64 0, .int .u16 0, .int .u16 0, .int .u16 0, .slice none 0 0, .slice none 0 0, .int .i64 0, .int .i64 0, .int .i64 0, .int .i64 0] 30)) w3 := by rw [← hw3]; exact (below_drewN ((((((below_drewN (Below.refl (w.heap.size + 1) _) (d1 + d3 + d5 + d7)).setCell (p := ⟨w.heap.size + 1, 8, none⟩) (Nat.le_refl _) (.int .i64 p)).setCell (p := ⟨w.heap.size + 1, 9, none⟩) (Nat.le_refl _) (.int .i64 q)).setCell (p := ⟨w.heap.size + 1, 1, none⟩) (Nat.le_refl _) (.int .i64 t)).setCell (p := ⟨w.heap.size + 1, 2, none⟩) (Nat.le_refl _) (.int .i64 l)).setCell (p := ⟨w.heap.size + 1, 7, none⟩) (Nat.le_refl _) (.slice none 0 0)) nq)
  have ha4 : WholeV w3 (w.heap.size + 1) 30 [.int .i64 23, .int .i64 t, .int .i64 l, .int .u16 0, .int .u16 0, .int .u16 0, .slice none 0 0, .slice none 0 0, .int .i64 p, .int .i64 q, .int .i64 0, .int .i64 0] := by rw [← hw3]; exact (((((((HG4.out.drewN (d1 + d3 + d5 + d7)).set 8 (.int .i64 p)).set 9 (.int .i64 q)).set 1 (.int .i64 t)).set 2 (.int .i64 l)).set 7 (.slice none 0 0)).drewN nq)
  have ha2 : WholeV w3 w.heap.size 30 [.int .i64 0, .int .i64 0, .int .i64 0, .int .u16 0, .int .u16 0, .int .u16 0, .slice none 0 0, .slice none 0 0, .int .i64 0, .int .i64 0, .int .i64 0, .int .i64 0] := HG2.out.below hbel (by omega)
  have hab : Below w.heap.size w w3 := HKW.out.trans (hbel.mono (by omega))
  have hz3 : w.heap.size + 2 ≤ w3.heap.size := ha4.lt
  rw [hw3]
  have HA2 := Lib.hid ha2
  have HAB := Lib.hid hab
  obtain ⟨hq0, hq1, hq2, hq3, hq4, hq5, hq6, hq7, hq8, hq9, hq10, hq11⟩ := cells12 ha4
  obtain ⟨hp0, hp1, hp2, hp3, hp4, hp5, hp6, hp7, hp8, hp9, hp10, hp11⟩ := cells12 ha2
  obtain ⟨hf0, hf1, hf2, hf3, hf4, hf5, hf6, hf7, hf8, hf9, hf10, hf11⟩ := frozen12 ha2
  obtain ⟨w9, hw9, hwh, hbb⟩ := set12 ha2 hab (.int .i64 23) (.int .i64 t) (.int .i64 l) (.int .u16 0) (.int .u16 0) (.int .u16 0) (.slice none 0 0) (.slice none 0 0) (.int .i64 p) (.int .i64 q) (.int .i64 0) (.int .i64 0) rfl
  have HE := Lib.hid (cells12 hwh)
  have HBB := Lib.hid hbb
  have HW9 := Lib.hid hw9
  clear hwh hbb hw9
  clear ha2 ha4 hw3 hbel hab HR HX HRG HG4 HG2 HKW
  first | go_region_with (fail) | skip
  all_goals
    go_wp2
    rw [HW9.out]
    obtain ⟨he0, he1, he2, he3, he4, he5, he6, he7, he8, he9, he10, he11⟩ := HE.out
    exact bodyPost_ret (v := .tuple #[.agg #[.int .i64 23, .int .i64 t, .int .i64 l, .int .u16 0, .int .u16 0, .int .u16 0, .slice none 0 0, .slice none 0 0, .int .i64 p, .int .i64 q, .int .i64 0, .int .i64 0], .bool false]) (by simp [results, Try.results25, go_sem, he0, he1, he2, he3, he4, he5, he6, he7, he8, he9, he10, he11]) rfl ⟨rfl, HBB.out.drew⟩

end Go.Proofs.Ytebpilfogdenjaa

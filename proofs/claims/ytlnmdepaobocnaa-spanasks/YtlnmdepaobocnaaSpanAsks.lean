/- Proved: for every list of ints, every int, every api.Key and every bool, busbarlaw12.SpanAsks returns true, and its arguments read as before. Conditions: none. -/
import Derived.Test.YtlnmdepaobocnaaSRun
import Derived.Test.YtlnmdepaobocnaaPCov
import Derived.Test.YtlnmdepaobocnaaRHas
import Derived.Test.YtlnmdepaobocnaaRCovers
import Derived.Test.YtlnmdepaobocnaaRMeets
import Derived.Test.YtlnmdepaobocnaaOpenSpans
namespace Go.Proofs.Ytlnmdepaobocnaa.spanAsks
open Go.ChangeShapes Go.WideShapes Go.ChangeAt Go.RowKit
open Go.ChangeMaps (open_string shut_string)
set_option linter.unusedVariables false
set_option linter.unusedSimpArgs false

theorem pt_bool (p : Prop) : ∃ b : Bool, b = true ↔ p := by
  by_cases h : p
  · exact ⟨true, by simp [h]⟩
  · exact ⟨false, by simp [h]⟩
set_option maxRecDepth 100000 in
set_option maxHeartbeats 8000000 in
theorem asks_false (A : Option Addr) (n c : Nat) (zs : List Int) (k kt0 ka0 : Int) (w : World) (hr : Row .i64 w w.heap.size A n zs) (hz : In64S zs) (k0 : -9223372036854775808 ≤ k) (k1 : k ≤ 9223372036854775807) (l0 : -9223372036854775808 ≤ ka0) (l1 : ka0 ≤ 9223372036854775807) :
    Calls Try.prog 5 #[.slice A n c, .int .i64 k, .agg #[.int .i64 kt0, .int .i64 ka0], .bool false] w fun e w' => e = .returned (.bool true) ∧ Below w.heap.size w w' := by
  obtain ⟨W0, hW0⟩ : ∃ W, w.alloc (.cells #[.int .i64 kt0, .int .i64 ka0] 39) = W := ⟨_, rfl⟩
  have hk : Below w.heap.size w W0 := by rw [← hW0]; exact (Below.refl _ _).alloc (Nat.le_refl _) _
  have h0 : WholeV W0 w.heap.size 39 [.int .i64 kt0, .int .i64 ka0] := by rw [← hW0]; exact heap_alloc_new w _
  have HK := Lib.hid hk
  have HK0 := Lib.hid h0
  have HR := Lib.hid ((hr.below hk).more hk.size)
  have HZ := Lib.hid hz
  have HSR := Lib.hid (spOf_right k)
  have CS := Lib.hid (fun W => lspan_any k W k0 k1)
  have CK := Lib.hid (fun W => lkey12_any ka0 W l0 l1)
  obtain ⟨⟨t, f, u⟩, hs⟩ : ∃ s, spOf k = s := ⟨_, rfl⟩
  rw [hs] at HSR CS
  have hq := HSR.out
  unfold rightS at hq
  dsimp only at hq
  obtain ⟨q1, q2, q3, q4, q5⟩ := hq
  have HG0 := Lib.hid h0.lt
  clear hr hz hs k0 k1 hk h0
  go_enter Try.func5, Try.ntmps5
  go_wp2_with (first
    | (go_at_call 9; refine (awake12_any _).mono ?_; rintro e w1 ⟨rfl, hb⟩
       have HB1 := Lib.hid (HK.out.trans (hb.mono HK.out.size))
       have HR1 := Lib.hid ((HR.out.below hb).more hb.size)
       have HK1 := Lib.hid (HK0.out.below hb HK0.out.lt)
       clear hb)
    | (go_at_call 16
       (with_reducible refine (lspans_any A n c zs w1 HR1.out HZ.out).mono ?_)
       rintro e w2 ⟨⟨B, m, d, l, rfl, ho, hc, hm⟩, hb⟩
       have HB2 := Lib.hid (HB1.out.trans (hb.mono HB1.out.size))
       have HO2 := Lib.hid ho
       have HC := Lib.hid hc
       have HMD := Lib.hid ho.cap
       have HLL := Lib.hid ho.len
       have HK2 := Lib.hid (HK1.out.below hb HK1.out.lt)
       have HG1 := Lib.hid HK1.out.lt
       clear hb ho hc)
    | (go_at_call 19
       (with_reducible refine (CS.out _).mono ?_)
       rintro e w3 ⟨rfl, hb⟩
       have hz0 : WholeV (w3.alloc (.cells #[.int .i64 t, .int .i64 f, .int .i64 u] 23)) w3.heap.size 23 [.int .i64 t, .int .i64 f, .int .i64 u] := heap_alloc_new w3 _
       have hal : Below w3.heap.size w3 (w3.alloc (.cells #[.int .i64 t, .int .i64 f, .int .i64 u] 23)) := (Below.refl _ _).alloc (Nat.le_refl _) _
       have hb3 := HB2.out.trans (hb.mono HB2.out.size)
       have HB3 := Lib.hid (hb3.trans (hal.mono hb3.size))
       have HW3 := Lib.hid hz0
       have HO3 := Lib.hid ((HO2.out.keep hb).keep hal)
       have hk3 := HK2.out.below hb HK2.out.lt
       have HG3 := Lib.hid hk3.lt
       have hk4 := hk3.below hal hk3.lt
       have m0 : (w3.alloc (.cells #[.int .i64 t, .int .i64 f, .int .i64 u] 23)).cell? ⟨w.heap.size, 0, none⟩ = some (.int .i64 kt0) := hk4.cell 0
       have m1 : (w3.alloc (.cells #[.int .i64 t, .int .i64 f, .int .i64 u] 23)).cell? ⟨w.heap.size, 1, none⟩ = some (.int .i64 ka0) := hk4.cell 1
       have HK3 := Lib.hid hk4
       clear hb hb3 hal hz0 hk3 hk4))
  obtain ⟨kt, hkt⟩ : ∃ x, kt0 = x := ⟨_, rfl⟩
  obtain ⟨ka, hka⟩ : ∃ x, ka0 = x := ⟨_, rfl⟩
  rw [hka] at l0 l1
  have hk3 := HK3.out
  rw [hkt, hka] at hk3
  have hw3 := HW3.out
  have ho3 := HO3.out
  have HBV := HB3
  obtain ⟨V, hV⟩ : ∃ V, w3.alloc (.cells #[.int .i64 t, .int .i64 f, .int .i64 u] 23) = V := ⟨_, rfl⟩
  rw [hV] at hk3 hw3 ho3 HBV ⊢
  have HLV : Hid (∀ X, Below V.heap.size V X → SL X B m l) := Lib.hid fun X hX => (ho3.keep hX).sl
  have HWV0 : Hid (∀ X, Below V.heap.size V X → WholeV X w3.heap.size 23 [.int .i64 t, .int .i64 f, .int .i64 u]) := Lib.hid fun X hX => hw3.below hX hw3.lt
  have HKV0 : Hid (∀ X, Below V.heap.size V X → WholeV X w.heap.size 39 [.int .i64 kt, .int .i64 ka]) := Lib.hid fun X hX => hk3.below hX hk3.lt
  clear hkt hka m0 m1 hk3 hw3 ho3 hV
  obtain ⟨g, hg⟩ : ∃ g, w3.heap.size = g := ⟨_, rfl⟩
  obtain ⟨gk, hgk⟩ : ∃ x, w.heap.size = x := ⟨_, rfl⟩
  have HWV := HWV0
  have HKV := HKV0
  rw [hg] at HWV ⊢
  rw [hgk] at HKV ⊢
  clear HWV0 HKV0 HB3 HW3 HO3 HK3
  have KS : Hid (∀ X, Below V.heap.size V X → X.cell? ⟨g, 0, none⟩ = some (.int .i64 t) ∧ X.cell? ⟨g, 1, none⟩ = some (.int .i64 f) ∧ X.cell? ⟨g, 2, none⟩ = some (.int .i64 u) ∧ X.cell? ⟨gk, 0, none⟩ = some (.int .i64 kt) ∧ X.cell? ⟨gk, 1, none⟩ = some (.int .i64 ka) ∧ Below V.heap.size V X) := Lib.hid fun X hX => ⟨(HWV.out X hX).cell 0, (HWV.out X hX).cell 1, (HWV.out X hX).cell 2, (HKV.out X hX).cell 0, (HKV.out X hX).cell 1, hX⟩
  have KB : Hid (∀ X, (X.cell? ⟨g, 0, none⟩ = some (.int .i64 t) ∧ X.cell? ⟨g, 1, none⟩ = some (.int .i64 f) ∧ X.cell? ⟨g, 2, none⟩ = some (.int .i64 u) ∧ X.cell? ⟨gk, 0, none⟩ = some (.int .i64 kt) ∧ X.cell? ⟨gk, 1, none⟩ = some (.int .i64 ka) ∧ Below V.heap.size V X) → Below V.heap.size V X) := Lib.hid fun X hs => hs.2.2.2.2.2
  have KT : Hid (∀ X X', (X.cell? ⟨g, 0, none⟩ = some (.int .i64 t) ∧ X.cell? ⟨g, 1, none⟩ = some (.int .i64 f) ∧ X.cell? ⟨g, 2, none⟩ = some (.int .i64 u) ∧ X.cell? ⟨gk, 0, none⟩ = some (.int .i64 kt) ∧ X.cell? ⟨gk, 1, none⟩ = some (.int .i64 ka) ∧ Below V.heap.size V X) → Below X.heap.size X X' → X'.cell? ⟨g, 0, none⟩ = some (.int .i64 t) ∧ X'.cell? ⟨g, 1, none⟩ = some (.int .i64 f) ∧ X'.cell? ⟨g, 2, none⟩ = some (.int .i64 u) ∧ X'.cell? ⟨gk, 0, none⟩ = some (.int .i64 kt) ∧ X'.cell? ⟨gk, 1, none⟩ = some (.int .i64 ka) ∧ Below V.heap.size V X') := Lib.hid fun X X' hs hb => KS.out _ (hs.2.2.2.2.2.trans (hb.mono hs.2.2.2.2.2.size))
  obtain ⟨bH, hbH⟩ := pt_bool (hasS l kt ka)
  obtain ⟨bC, hbC⟩ := pt_bool (coversS l (t, f, u))
  obtain ⟨bM, hbM⟩ := pt_bool (meetsS l (t, f, u))
  obtain ⟨zL, hzL⟩ : ∃ z, sizeS l = z := ⟨_, rfl⟩
  have HC1 : Hid (∀ X, Below V.heap.size V X → Calls Try.prog 26 #[.slice B m d, .agg #[.int .i64 kt, .int .i64 ka]] X fun e w' => e = .returned (.bool bH) ∧ Below X.heap.size X w') := Lib.hid fun X hX => phas_any B m d l kt ka bH X (HLV.out X hX) (by omega) HMD.out HC.out hbH (by omega) (by omega)
  have HC2 : Hid (∀ X, Below V.heap.size V X → Calls Try.prog 27 #[.slice B m d, .agg #[.int .i64 kt, .int .i64 ka]] X fun e w' => e = .returned (.bool bH) ∧ Below X.heap.size X w') := Lib.hid fun X hX => rhas_any B m d l kt ka bH X (HLV.out X hX) hbH (by omega)
  have HC3 : Hid (∀ X, Below V.heap.size V X → Calls Try.prog 28 #[.slice B m d, .agg #[.int .i64 t, .int .i64 f, .int .i64 u]] X fun e w' => e = .returned (.bool bC) ∧ Below X.heap.size X w') := Lib.hid fun X hX => pcovers_any B m d l t f u bC X (HLV.out X hX) (by omega) HMD.out HC.out (.inl ⟨by omega, hbC⟩)
  have HC4 : Hid (∀ X, Below V.heap.size V X → Calls Try.prog 29 #[.slice B m d, .agg #[.int .i64 t, .int .i64 f, .int .i64 u]] X fun e w' => e = .returned (.bool bC) ∧ Below X.heap.size X w') := Lib.hid fun X hX => rcovers_any B m d l t f u bC X (HLV.out X hX) hbC (by omega)
  have HC5 : Hid (∀ X, Below V.heap.size V X → Calls Try.prog 30 #[.slice B m d, .agg #[.int .i64 t, .int .i64 f, .int .i64 u]] X fun e w' => e = .returned (.bool bM) ∧ Below X.heap.size X w') := Lib.hid fun X hX => pmeets_any B m d l t f u bM X (HLV.out X hX) (by omega) HMD.out HC.out (.inl ⟨by omega, hbM⟩)
  have HC6 : Hid (∀ X, Below V.heap.size V X → Calls Try.prog 31 #[.slice B m d, .agg #[.int .i64 t, .int .i64 f, .int .i64 u]] X fun e w' => e = .returned (.bool bM) ∧ Below X.heap.size X w') := Lib.hid fun X hX => rmeets_any B m d l t f u bM X (HLV.out X hX) hbM (by omega)
  have HC7 : Hid (∀ X, Below V.heap.size V X → Calls Try.prog 32 #[.slice B m d] X fun e w' => e = .returned (.int .i64 zL) ∧ Below X.heap.size X w') := Lib.hid fun X hX => by
      have h := psize_any B m d l X (HLV.out X hX) (canonS_right HC.out) (by omega)
      rw [hzL] at h
      exact h
  have HC8 : Hid (∀ X, Below V.heap.size V X → Calls Try.prog 33 #[.slice B m d] X fun e w' => e = .returned (.int .i64 zL) ∧ Below X.heap.size X w') := Lib.hid fun X hX => by
      have h := rsize_any B m d l X (HLV.out X hX) (canonS_right HC.out) (by omega)
      rw [hzL] at h
      exact h
  clear hbH hbC hbM hzL
  go_region_held3 (fun X => X.cell? ⟨g, 0, none⟩ = some (.int .i64 t) ∧ X.cell? ⟨g, 1, none⟩ = some (.int .i64 f) ∧ X.cell? ⟨g, 2, none⟩ = some (.int .i64 u) ∧ X.cell? ⟨gk, 0, none⟩ = some (.int .i64 kt) ∧ X.cell? ⟨gk, 1, none⟩ = some (.int .i64 ka) ∧ Below V.heap.size V X)
    (first
      | exact KS.out _ (Below.refl _ _).drew
      | exact KT.out _ _ (by assumption) kA
      | exact KT.out _ _ (by assumption) kB
      | exact KT.out _ _ (by assumption) kC
      | exact KT.out _ _ (by assumption) kD
      | exact KT.out _ _ (by assumption) kE
      | exact KT.out _ _ (by assumption) kF
      | exact KT.out _ _ (by assumption) kG
      | exact KT.out _ _ (by assumption) kH)
    (first
      | (go_at_call 26
         (with_reducible refine (HC1.out _ (KB.out _ ?_)).mono ?_)
         · assumption
         rintro e xkA ⟨rfl, kA⟩)
      | (go_at_call 27
         (with_reducible refine (HC2.out _ (KB.out _ ?_)).mono ?_)
         · assumption
         rintro e xkB ⟨rfl, kB⟩)
      | (go_at_call 28
         (with_reducible refine (HC3.out _ (KB.out _ ?_)).mono ?_)
         · assumption
         rintro e xkC ⟨rfl, kC⟩)
      | (go_at_call 29
         (with_reducible refine (HC4.out _ (KB.out _ ?_)).mono ?_)
         · assumption
         rintro e xkD ⟨rfl, kD⟩)
      | (go_at_call 30
         (with_reducible refine (HC5.out _ (KB.out _ ?_)).mono ?_)
         · assumption
         rintro e xkE ⟨rfl, kE⟩)
      | (go_at_call 31
         (with_reducible refine (HC6.out _ (KB.out _ ?_)).mono ?_)
         · assumption
         rintro e xkF ⟨rfl, kF⟩)
      | (go_at_call 32
         (with_reducible refine (HC7.out _ (KB.out _ ?_)).mono ?_)
         · assumption
         rintro e xkG ⟨rfl, kG⟩)
      | (go_at_call 33
         (with_reducible refine (HC8.out _ (KB.out _ ?_)).mono ?_)
         · assumption
         rintro e xkH ⟨rfl, kH⟩))
  all_goals
    have hvx := KB.out _ (by assumption)
    go_wp2
    go_ret
    exact ⟨rfl, HBV.out.trans (hvx.mono HBV.out.size)⟩

set_option maxRecDepth 100000 in
set_option maxHeartbeats 8000000 in
theorem asks_true (A : Option Addr) (n c : Nat) (zs : List Int) (k kt0 ka0 : Int) (w : World) (hr : Row .i64 w w.heap.size A n zs) (hz : In64S zs) (k0 : -9223372036854775808 ≤ k) (k1 : k ≤ 9223372036854775807) (l0 : -9223372036854775808 ≤ ka0) (l1 : ka0 ≤ 9223372036854775807) :
    Calls Try.prog 5 #[.slice A n c, .int .i64 k, .agg #[.int .i64 kt0, .int .i64 ka0], .bool true] w fun e w' => e = .returned (.bool true) ∧ Below w.heap.size w w' := by
  obtain ⟨W0, hW0⟩ : ∃ W, w.alloc (.cells #[.int .i64 kt0, .int .i64 ka0] 39) = W := ⟨_, rfl⟩
  have hk : Below w.heap.size w W0 := by rw [← hW0]; exact (Below.refl _ _).alloc (Nat.le_refl _) _
  have h0 : WholeV W0 w.heap.size 39 [.int .i64 kt0, .int .i64 ka0] := by rw [← hW0]; exact heap_alloc_new w _
  have HK := Lib.hid hk
  have HK0 := Lib.hid h0
  have HR := Lib.hid ((hr.below hk).more hk.size)
  have HZ := Lib.hid hz
  have HSR := Lib.hid (spOf_right k)
  have CS := Lib.hid (fun W => lspan_any k W k0 k1)
  have CK := Lib.hid (fun W => lkey12_any ka0 W l0 l1)
  obtain ⟨⟨t, f, u⟩, hs⟩ : ∃ s, spOf k = s := ⟨_, rfl⟩
  rw [hs] at HSR CS
  have hq := HSR.out
  unfold rightS at hq
  dsimp only at hq
  obtain ⟨q1, q2, q3, q4, q5⟩ := hq
  have HG0 := Lib.hid h0.lt
  clear hr hz hs k0 k1 hk h0
  go_enter Try.func5, Try.ntmps5
  go_wp2_with (first
    | (go_at_call 9; refine (awake12_any _).mono ?_; rintro e w1 ⟨rfl, hb⟩
       have HB1 := Lib.hid (HK.out.trans (hb.mono HK.out.size))
       have HR1 := Lib.hid ((HR.out.below hb).more hb.size)
       have HK1 := Lib.hid (HK0.out.below hb HK0.out.lt)
       clear hb)
    | (go_at_call 16
       (with_reducible refine (lspans_any A n c zs w1 HR1.out HZ.out).mono ?_)
       rintro e w2 ⟨⟨B, m, d, l, rfl, ho, hc, hm⟩, hb⟩
       have HB2 := Lib.hid (HB1.out.trans (hb.mono HB1.out.size))
       have HO2 := Lib.hid ho
       have HC := Lib.hid hc
       have HMD := Lib.hid ho.cap
       have HLL := Lib.hid ho.len
       have HK2 := Lib.hid (HK1.out.below hb HK1.out.lt)
       have HG1 := Lib.hid HK1.out.lt
       clear hb ho hc)
    | (go_at_call 19
       (with_reducible refine (CS.out _).mono ?_)
       rintro e w3 ⟨rfl, hb⟩
       have hz0 : WholeV (w3.alloc (.cells #[.int .i64 t, .int .i64 f, .int .i64 u] 23)) w3.heap.size 23 [.int .i64 t, .int .i64 f, .int .i64 u] := heap_alloc_new w3 _
       have hal : Below w3.heap.size w3 (w3.alloc (.cells #[.int .i64 t, .int .i64 f, .int .i64 u] 23)) := (Below.refl _ _).alloc (Nat.le_refl _) _
       have hb3 := HB2.out.trans (hb.mono HB2.out.size)
       have HB3 := Lib.hid (hb3.trans (hal.mono hb3.size))
       have HW3 := Lib.hid hz0
       have HO3 := Lib.hid ((HO2.out.keep hb).keep hal)
       have hk3 := HK2.out.below hb HK2.out.lt
       have HG3 := Lib.hid hk3.lt
       have hk4 := hk3.below hal hk3.lt
       have m0 : (w3.alloc (.cells #[.int .i64 t, .int .i64 f, .int .i64 u] 23)).cell? ⟨w.heap.size, 0, none⟩ = some (.int .i64 kt0) := hk4.cell 0
       have m1 : (w3.alloc (.cells #[.int .i64 t, .int .i64 f, .int .i64 u] 23)).cell? ⟨w.heap.size, 1, none⟩ = some (.int .i64 ka0) := hk4.cell 1
       have HK3 := Lib.hid hk4
       clear hb hb3 hal hz0 hk3 hk4)
    | (go_at_call 25
       (with_reducible refine (CK.out _).mono ?_)
       rintro e w4 ⟨⟨kt, ka, rfl, ka1, ka2⟩, hb⟩
       have HB4 := Lib.hid (HB3.out.trans (hb.mono HB3.out.size))
       have HO4 := Lib.hid (HO3.out.keep hb)
       have HW4 := Lib.hid (HW3.out.below hb HW3.out.lt)
       have hk4 := HK3.out.below hb HK3.out.lt
       have n0 : w4.cell? ⟨w.heap.size, 0, none⟩ = some (.int .i64 kt0) := hk4.cell 0
       have n1 : w4.cell? ⟨w.heap.size, 1, none⟩ = some (.int .i64 ka0) := hk4.cell 1
       have fn0 : w4.frozen? ⟨w.heap.size, 0, none⟩ = false := hk4.frozen 0
       have fn1 : w4.frozen? ⟨w.heap.size, 1, none⟩ = false := hk4.frozen 1
       have HK4 := Lib.hid hk4
       clear hb hk4))
  have l0' : -9223372036854775808 ≤ ka := by omega
  have l1' : ka ≤ 9223372036854775807 := by omega
  have hk3 := (HK4.out.set 0 (.int .i64 kt)).set 1 (.int .i64 ka)
  have hoff := ((Off.refl (fun i => i = w.heap.size) w4).setCell (p := ⟨w.heap.size, 0, none⟩) (.inl rfl) (.int .i64 kt)).setCell (p := ⟨w.heap.size, 1, none⟩) (.inl rfl) (.int .i64 ka)
  have hw3 := hoff.whole HW4.out (by have := HG3.out; omega)
  have ho3 := HO4.out.sets hoff HG1.out
  have hbv := (HB4.out.setCell (p := ⟨w.heap.size, 0, none⟩) (Nat.le_refl _) (.int .i64 kt)).setCell (p := ⟨w.heap.size, 1, none⟩) (Nat.le_refl _) (.int .i64 ka)
  obtain ⟨V, hV⟩ : ∃ V, (w4.setCell ⟨w.heap.size, 0, none⟩ (.int .i64 kt)).setCell ⟨w.heap.size, 1, none⟩ (.int .i64 ka) = V := ⟨_, rfl⟩
  rw [hV] at hk3 hw3 ho3 hbv ⊢
  have hk3' : WholeV V w.heap.size 39 [.int .i64 kt, .int .i64 ka] := hk3
  have HBV := Lib.hid hbv
  have HLV : Hid (∀ X, Below V.heap.size V X → SL X B m l) := Lib.hid fun X hX => (ho3.keep hX).sl
  have HWV0 : Hid (∀ X, Below V.heap.size V X → WholeV X w3.heap.size 23 [.int .i64 t, .int .i64 f, .int .i64 u]) := Lib.hid fun X hX => hw3.below hX hw3.lt
  have HKV0 : Hid (∀ X, Below V.heap.size V X → WholeV X w.heap.size 39 [.int .i64 kt, .int .i64 ka]) := Lib.hid fun X hX => hk3'.below hX hk3'.lt
  clear m0 m1 n0 n1 fn0 fn1 hk3 hk3' hw3 ho3 hV hoff hbv
  obtain ⟨g, hg⟩ : ∃ g, w3.heap.size = g := ⟨_, rfl⟩
  obtain ⟨gk, hgk⟩ : ∃ x, w.heap.size = x := ⟨_, rfl⟩
  have HWV := HWV0
  have HKV := HKV0
  rw [hg] at HWV ⊢
  rw [hgk] at HKV ⊢
  clear HWV0 HKV0 HB3 HW3 HO3 HK3 HB4 HO4 HW4 HK4 l0 l1
  have KS : Hid (∀ X, Below V.heap.size V X → X.cell? ⟨g, 0, none⟩ = some (.int .i64 t) ∧ X.cell? ⟨g, 1, none⟩ = some (.int .i64 f) ∧ X.cell? ⟨g, 2, none⟩ = some (.int .i64 u) ∧ X.cell? ⟨gk, 0, none⟩ = some (.int .i64 kt) ∧ X.cell? ⟨gk, 1, none⟩ = some (.int .i64 ka) ∧ Below V.heap.size V X) := Lib.hid fun X hX => ⟨(HWV.out X hX).cell 0, (HWV.out X hX).cell 1, (HWV.out X hX).cell 2, (HKV.out X hX).cell 0, (HKV.out X hX).cell 1, hX⟩
  have KB : Hid (∀ X, (X.cell? ⟨g, 0, none⟩ = some (.int .i64 t) ∧ X.cell? ⟨g, 1, none⟩ = some (.int .i64 f) ∧ X.cell? ⟨g, 2, none⟩ = some (.int .i64 u) ∧ X.cell? ⟨gk, 0, none⟩ = some (.int .i64 kt) ∧ X.cell? ⟨gk, 1, none⟩ = some (.int .i64 ka) ∧ Below V.heap.size V X) → Below V.heap.size V X) := Lib.hid fun X hs => hs.2.2.2.2.2
  have KT : Hid (∀ X X', (X.cell? ⟨g, 0, none⟩ = some (.int .i64 t) ∧ X.cell? ⟨g, 1, none⟩ = some (.int .i64 f) ∧ X.cell? ⟨g, 2, none⟩ = some (.int .i64 u) ∧ X.cell? ⟨gk, 0, none⟩ = some (.int .i64 kt) ∧ X.cell? ⟨gk, 1, none⟩ = some (.int .i64 ka) ∧ Below V.heap.size V X) → Below X.heap.size X X' → X'.cell? ⟨g, 0, none⟩ = some (.int .i64 t) ∧ X'.cell? ⟨g, 1, none⟩ = some (.int .i64 f) ∧ X'.cell? ⟨g, 2, none⟩ = some (.int .i64 u) ∧ X'.cell? ⟨gk, 0, none⟩ = some (.int .i64 kt) ∧ X'.cell? ⟨gk, 1, none⟩ = some (.int .i64 ka) ∧ Below V.heap.size V X') := Lib.hid fun X X' hs hb => KS.out _ (hs.2.2.2.2.2.trans (hb.mono hs.2.2.2.2.2.size))
  obtain ⟨bH, hbH⟩ := pt_bool (hasS l kt ka)
  obtain ⟨bC, hbC⟩ := pt_bool (coversS l (t, f, u))
  obtain ⟨bM, hbM⟩ := pt_bool (meetsS l (t, f, u))
  obtain ⟨zL, hzL⟩ : ∃ z, sizeS l = z := ⟨_, rfl⟩
  have HC1 : Hid (∀ X, Below V.heap.size V X → Calls Try.prog 26 #[.slice B m d, .agg #[.int .i64 kt, .int .i64 ka]] X fun e w' => e = .returned (.bool bH) ∧ Below X.heap.size X w') := Lib.hid fun X hX => phas_any B m d l kt ka bH X (HLV.out X hX) (by omega) HMD.out HC.out hbH (by omega) (by omega)
  have HC2 : Hid (∀ X, Below V.heap.size V X → Calls Try.prog 27 #[.slice B m d, .agg #[.int .i64 kt, .int .i64 ka]] X fun e w' => e = .returned (.bool bH) ∧ Below X.heap.size X w') := Lib.hid fun X hX => rhas_any B m d l kt ka bH X (HLV.out X hX) hbH (by omega)
  have HC3 : Hid (∀ X, Below V.heap.size V X → Calls Try.prog 28 #[.slice B m d, .agg #[.int .i64 t, .int .i64 f, .int .i64 u]] X fun e w' => e = .returned (.bool bC) ∧ Below X.heap.size X w') := Lib.hid fun X hX => pcovers_any B m d l t f u bC X (HLV.out X hX) (by omega) HMD.out HC.out (.inl ⟨by omega, hbC⟩)
  have HC4 : Hid (∀ X, Below V.heap.size V X → Calls Try.prog 29 #[.slice B m d, .agg #[.int .i64 t, .int .i64 f, .int .i64 u]] X fun e w' => e = .returned (.bool bC) ∧ Below X.heap.size X w') := Lib.hid fun X hX => rcovers_any B m d l t f u bC X (HLV.out X hX) hbC (by omega)
  have HC5 : Hid (∀ X, Below V.heap.size V X → Calls Try.prog 30 #[.slice B m d, .agg #[.int .i64 t, .int .i64 f, .int .i64 u]] X fun e w' => e = .returned (.bool bM) ∧ Below X.heap.size X w') := Lib.hid fun X hX => pmeets_any B m d l t f u bM X (HLV.out X hX) (by omega) HMD.out HC.out (.inl ⟨by omega, hbM⟩)
  have HC6 : Hid (∀ X, Below V.heap.size V X → Calls Try.prog 31 #[.slice B m d, .agg #[.int .i64 t, .int .i64 f, .int .i64 u]] X fun e w' => e = .returned (.bool bM) ∧ Below X.heap.size X w') := Lib.hid fun X hX => rmeets_any B m d l t f u bM X (HLV.out X hX) hbM (by omega)
  have HC7 : Hid (∀ X, Below V.heap.size V X → Calls Try.prog 32 #[.slice B m d] X fun e w' => e = .returned (.int .i64 zL) ∧ Below X.heap.size X w') := Lib.hid fun X hX => by
      have h := psize_any B m d l X (HLV.out X hX) (canonS_right HC.out) (by omega)
      rw [hzL] at h
      exact h
  have HC8 : Hid (∀ X, Below V.heap.size V X → Calls Try.prog 33 #[.slice B m d] X fun e w' => e = .returned (.int .i64 zL) ∧ Below X.heap.size X w') := Lib.hid fun X hX => by
      have h := rsize_any B m d l X (HLV.out X hX) (canonS_right HC.out) (by omega)
      rw [hzL] at h
      exact h
  clear hbH hbC hbM hzL
  go_region_held3 (fun X => X.cell? ⟨g, 0, none⟩ = some (.int .i64 t) ∧ X.cell? ⟨g, 1, none⟩ = some (.int .i64 f) ∧ X.cell? ⟨g, 2, none⟩ = some (.int .i64 u) ∧ X.cell? ⟨gk, 0, none⟩ = some (.int .i64 kt) ∧ X.cell? ⟨gk, 1, none⟩ = some (.int .i64 ka) ∧ Below V.heap.size V X)
    (first
      | exact KS.out _ (Below.refl _ _).drew
      | exact KT.out _ _ (by assumption) kA
      | exact KT.out _ _ (by assumption) kB
      | exact KT.out _ _ (by assumption) kC
      | exact KT.out _ _ (by assumption) kD
      | exact KT.out _ _ (by assumption) kE
      | exact KT.out _ _ (by assumption) kF
      | exact KT.out _ _ (by assumption) kG
      | exact KT.out _ _ (by assumption) kH)
    (first
      | (go_at_call 26
         (with_reducible refine (HC1.out _ (KB.out _ ?_)).mono ?_)
         · assumption
         rintro e xkA ⟨rfl, kA⟩)
      | (go_at_call 27
         (with_reducible refine (HC2.out _ (KB.out _ ?_)).mono ?_)
         · assumption
         rintro e xkB ⟨rfl, kB⟩)
      | (go_at_call 28
         (with_reducible refine (HC3.out _ (KB.out _ ?_)).mono ?_)
         · assumption
         rintro e xkC ⟨rfl, kC⟩)
      | (go_at_call 29
         (with_reducible refine (HC4.out _ (KB.out _ ?_)).mono ?_)
         · assumption
         rintro e xkD ⟨rfl, kD⟩)
      | (go_at_call 30
         (with_reducible refine (HC5.out _ (KB.out _ ?_)).mono ?_)
         · assumption
         rintro e xkE ⟨rfl, kE⟩)
      | (go_at_call 31
         (with_reducible refine (HC6.out _ (KB.out _ ?_)).mono ?_)
         · assumption
         rintro e xkF ⟨rfl, kF⟩)
      | (go_at_call 32
         (with_reducible refine (HC7.out _ (KB.out _ ?_)).mono ?_)
         · assumption
         rintro e xkG ⟨rfl, kG⟩)
      | (go_at_call 33
         (with_reducible refine (HC8.out _ (KB.out _ ?_)).mono ?_)
         · assumption
         rintro e xkH ⟨rfl, kH⟩))
  all_goals
    have hvx := KB.out _ (by assumption)
    go_wp2
    go_ret
    exact ⟨rfl, HBV.out.trans (hvx.mono HBV.out.size)⟩
theorem walk (a0 : Option Addr) (len0 cap0 : Nat) (z0 : List Int) (a1 : Int) (a2t a2a : Int) (a3 : Bool) (w : World) (w0 : IsRow .i64 w a0 len0 cap0 z0) (w1 : (Lit.int .i64 a1).wf = true) (w2 : (Lit.int .i64 a2a).wf = true) :
    Calls Try.prog 5 #[.slice a0 len0 cap0, .int .i64 a1, .agg #[.int .i64 a2t, .int .i64 a2a], .bool a3] w fun e w' => e = .returned (.bool true) ∧ Below w.heap.size w w' := by
  cases a3
  · exact asks_false a0 len0 cap0 _ a1 a2t a2a w w0.row (fun k hk => bounds_i64 (w0.wf k hk)) (bounds_i64 w1).1 (bounds_i64 w1).2 (bounds_i64 w2).1 (bounds_i64 w2).2
  · exact asks_true a0 len0 cap0 _ a1 a2t a2a w w0.row (fun k hk => bounds_i64 (w0.wf k hk)) (bounds_i64 w1).1 (bounds_i64 w1).2 (bounds_i64 w2).1 (bounds_i64 w2).2

set_option maxRecDepth 100000 in
theorem lifted (os : Os) (started : os.Started) (H : Type) (enc : TypeId × Value → H) :
    ReturnsInHanded {} Try.checked os 5 .any (Rows.spanAsksSpec.pre6 enc Try.prog Try.f5 Rows.spanAsksRow.domain false) (Rows.spanAsksSpec.post enc Try.prog Try.f5 false true false false) := by
  refine returnsInHanded_of_change (C := Try.checked) own started (by kernel_rfl) Try.func5
    (ChangeSpec.witness6 (enc := enc) (C := Try.checked) false ⟨#[], #[.slice none 0 0, .int .i64 0, .agg #[.int .i64 0, .int .i64 0], .bool false], []⟩ 8 (by kernel_rfl) (by kernel_rfl) (by kernel_rfl) (by kernel_rfl)) ?_
  intro W base args ds gs before hval0 hW hcnd _
  have hval : ∀ (j : Nat) t v, Try.f5.params[j]? = some t → args[j]? = some v → Value.okWide Try.prog W .any base t v := hval0
  have hW' := hW
  obtain ⟨p, q, hA0, hV, rfl, hfz, hnd⟩ := hW
  have hA : DataW.TrodAll enc Try.prog W 0 (fun _ => true) true Try.f5.params.toList args.toList ds p := hA0
  rw [Try.params5] at hA hval
  obtain ⟨v0, vs0, d0, ds0, p0, q0, hargs, rfl, rfl, h0, r0⟩ := trodAll_cons hA
  obtain ⟨v1, vs1, d1, ds1, p1, q1, rfl, rfl, rfl, h1, r1⟩ := trodAll_cons r0
  obtain ⟨v2, vs2, d2, ds2, p2, q2, rfl, rfl, rfl, h2, r2⟩ := trodAll_cons r1
  obtain ⟨v3, vs3, d3, ds3, p3, q3, rfl, rfl, rfl, h3, r3⟩ := trodAll_cons r2
  obtain ⟨rfl, rfl, rfl⟩ := trodAll_nil r3
  obtain rfl : args = #[v0, v1, v2, v3] := by cases args; simp_all
  obtain ⟨rfl, rfl⟩ := trodVars_none hV
  obtain ⟨a0, len0, cap0, rfl⟩ := okWide_slice Try.underlying25 (hval 0 25 v0 rfl rfl)
  have k0 := h0
  have lt0 : ∀ x ∈ p0, x.block < W.heap.size := by obtain ⟨m, hm⟩ := k0; exact DataW.trod_lt m _ _ _ hm
  obtain ⟨z0, w0⟩ : ∃ zs, IsRow .i64 W a0 len0 cap0 zs := by
    obtain ⟨fuel, hf⟩ := h0
    rcases open_ints Try.underlying25 Try.underlying3 (by kernel_rfl) hf with ⟨hcs, _⟩ | ⟨x, l, c, zs, hcs, _, hl, hm, hz, _, hcell, hwz⟩
    · simp [Value.cells] at hcs
      obtain ⟨rfl, rfl, rfl⟩ := hcs
      exact ⟨[], .inl ⟨rfl, rfl, rfl, rfl⟩⟩
    · simp [Value.cells] at hcs
      obtain ⟨rfl, rfl, rfl⟩ := hcs
      exact ⟨zs, .inr ⟨_, rfl, hl, hm, by simpa using hz, hcell, hwz⟩⟩
  obtain ⟨a1, rfl, rfl, rfl, w1⟩ := open_int Try.underlying3 (hval 1 3 v1 rfl rfl) h1
  have k2 := h2
  have lt2 : ∀ x ∈ p2, x.block < W.heap.size := by obtain ⟨m, hm⟩ := k2; exact DataW.trod_lt m _ _ _ hm
  obtain ⟨a2t, a2a, rfl, w2⟩ := open_key (hval 2 39 v2 rfl rfl) h2
  obtain ⟨a3, rfl, rfl, rfl⟩ := open_bool Try.underlying4 (hval 3 4 v3 rfl rfl) h3
  clear hA0 hval0
  refine (walk a0 len0 cap0 z0 a1 a2t a2a a3 W w0 w1 w2).mono fun e W' ⟨he, bel⟩ => ?_
  subst he
  exact ⟨_, rfl, _, _, _, [], _, [], hW', trodAll_mk1 (shut_bool Try.underlying4 _), (trodAll_cons_mk (Below.trod laidOut (by kernel_rfl) (of_decide_eq_true (by kernel_rfl)) k0 bel lt0) (trodAll_cons_mk (shut_int Try.underlying3 w1) (trodAll_cons_mk (Below.trod laidOut (by kernel_rfl) (of_decide_eq_true (by kernel_rfl)) k2 bel lt2) (trodAll_cons_mk (shut_bool Try.underlying4 _) trodAll_mk0)))), rfl, bel.frame _, fun h => by cases h⟩

theorem over : Rows.spanAsksRow.holds Try.pinned (OpenSpec.ofChange Rows.spanAsksSpec) :=
  OpenClaim.holds_of_wide 5 Try.f5 rfl rfl rfl rfl rfl rfl rfl ⟨rfl, rfl, rfl, rfl, rfl⟩ rfl rfl rfl rfl rfl (by kernel_rfl) Try.func5 (by kernel_rfl)
    (of_decide_eq_true (by kernel_rfl)) (by unfold Func.isWrapper; first | (rw [if_pos (by decide +kernel)]; kernel_rfl) | (rw [if_neg (by decide +kernel)]; exact ⟨rfl, rfl⟩))
    (fun os started H enc _ => lifted os started H enc)

theorem proved : Rows.SpanAsksSaid := over
#print axioms proved
end Go.Proofs.Ytlnmdepaobocnaa.spanAsks

/- Proved: for every list of ints and every int, busbarlaw12.SpanAdds returns true. Conditions: none. -/
import Derived.Test.YtlnmdepaobocnaaSRun
namespace Go.Proofs.Ytlnmdepaobocnaa.spanAdds
open Go.ChangeShapes Go.WideShapes Go.ChangeAt Go.RowKit
open Go.ChangeMaps (open_string shut_string)
set_option linter.unusedVariables false


theorem stays_below (A : Option Addr) (n c g : Nat) (os : List Sp) (w : World) (hl : SL w A n os) (hw : WholeV w g 23 (sps (os ++ [spM, spM, spM]))) (hn : n ≤ 100000) :
    Calls Try.prog 15 #[.slice (some ⟨g, 0, none⟩) n (n + 3), .slice A n c] w fun e w' => e = .returned (.bool true) ∧ Below w.heap.size w w' :=
  (staysspans_any A n c g os w hl hw hn).mono fun e w' ⟨he, k, hk⟩ => ⟨he, by rw [hk]; exact below_drewN (Below.refl _ _) k⟩

set_option maxRecDepth 100000 in
set_option maxHeartbeats 8000000 in
theorem adds_main (A : Option Addr) (n c : Nat) (zs : List Int) (k : Int) (w : World) (hr : Row .i64 w w.heap.size A n zs) (hz : In64S zs) (k0 : -9223372036854775808 ≤ k) (k1 : k ≤ 9223372036854775807) :
    Calls Try.prog 4 #[.slice A n c, .int .i64 k] w fun e w' => e = .returned (.bool true) ∧ Below w.heap.size w w' := by
  have HR := Lib.hid hr
  have HZ := Lib.hid hz
  have HSR := Lib.hid (spOf_right k)
  have CS := Lib.hid (fun W => lspan_any k W k0 k1)
  obtain ⟨⟨t, f, u⟩, hs⟩ : ∃ s, spOf k = s := ⟨_, rfl⟩
  rw [hs] at HSR CS
  clear hr hz hs k0 k1
  go_enter Try.func4, Try.ntmps4
  go_wp2_with (first
    | (go_at_call 9; refine (awake12_any _).mono ?_; rintro e w1 ⟨rfl, hb⟩; have HB1 := Lib.hid hb; clear hb)
    | (go_at_call 16
       (with_reducible refine (lspans_any A n c zs w1 ((HR.out.below HB1.out).more HB1.out.size) HZ.out).mono ?_)
       rintro e w2 ⟨⟨B, m, d, l, rfl, ho, hc, hm⟩, hb⟩
       have HB2 := Lib.hid (HB1.out.trans (hb.mono HB1.out.size))
       have HO2 := Lib.hid ho
       have HC := Lib.hid hc
       have HMD := Lib.hid ho.cap
       have HLL := Lib.hid ho.len
       clear hb ho hc)
    | (go_at_call 19
       (with_reducible refine (CS.out _).mono ?_)
       rintro e w3 ⟨rfl, hb⟩
       have hz0 : WholeV (w3.alloc (.cells #[.int .i64 t, .int .i64 f, .int .i64 u] 23)) w3.heap.size 23 [.int .i64 t, .int .i64 f, .int .i64 u] := heap_alloc_new w3 _
       have hal : Below w3.heap.size w3 (w3.alloc (.cells #[.int .i64 t, .int .i64 f, .int .i64 u] 23)) := (Below.refl _ _).alloc (Nat.le_refl _) _
       have hb3 := HB2.out.trans (hb.mono HB2.out.size)
       have HB3 := Lib.hid (hb3.trans (hal.mono hb3.size))
       have HW3 := Lib.hid hz0
       have HL3 := Lib.hid ((HO2.out.at_sl hb).below hal)
       clear hb hb3 hal hz0)
    | (go_at_call 10
       (with_reducible refine (lentspans_any B m d l _ HL3.out (by omega)).mono ?_)
       rintro e w4 ⟨rfl, hw4, hb4⟩
       have HB4 := Lib.hid (HB3.out.trans (hb4.mono HB3.out.size))
       have hlV := HL3.out.below hb4
       have HLV : Hid (∀ X, Below w4.heap.size w4 X → SL X B m l) := Lib.hid fun X hX => hlV.below hX
       have hsV := HW3.out.below hb4 HW3.out.lt
       have HWV : Hid (∀ X, Below w4.heap.size w4 X → WholeV X w3.heap.size 23 [.int .i64 t, .int .i64 f, .int .i64 u]) := Lib.hid fun X hX => hsV.below hX hsV.lt
       have HTV : Hid (∀ X, Below w4.heap.size w4 X → WholeV X (w3.alloc (.cells #[.int .i64 t, .int .i64 f, .int .i64 u] 23)).heap.size 23 (sps (l ++ [spM, spM, spM]))) := Lib.hid fun X hX => hw4.below hX hw4.lt
       clear hb4 hw4 hlV hsV))
  have HT2 : Hid (∀ X, Below w4.heap.size w4 X → WholeV X (w3.heap.size + 1) 23 (sps (l ++ [spM, spM, spM]))) := by
    have e : (w3.alloc (.cells #[.int .i64 t, .int .i64 f, .int .i64 u] 23)).heap.size = w3.heap.size + 1 := by simp
    rw [← e]
    exact HTV
  obtain ⟨g, hg⟩ : ∃ g, w3.heap.size = g := ⟨_, rfl⟩
  rw [hg] at HWV HT2 ⊢
  obtain ⟨gL, hgL⟩ : ∃ x, g + 1 = x := ⟨_, rfl⟩
  rw [hgL] at HT2 ⊢
  have HLL2 : Hid (∀ X, Below w4.heap.size w4 X → SL X (some ⟨gL, 0, none⟩) m l) := Lib.hid fun X hX => sl_of_whole (vs := sps [spM, spM, spM]) (by rw [← sps_append]; exact HT2.out X hX) HLL.out
  clear HTV hg hgL
  have KS : Hid (∀ X, Below w4.heap.size w4 X → X.cell? ⟨g, 0, none⟩ = some (.int .i64 t) ∧ X.cell? ⟨g, 1, none⟩ = some (.int .i64 f) ∧ X.cell? ⟨g, 2, none⟩ = some (.int .i64 u) ∧ Below w4.heap.size w4 X) := Lib.hid fun X hX => ⟨(HWV.out X hX).cell 0, (HWV.out X hX).cell 1, (HWV.out X hX).cell 2, hX⟩
  have KB : Hid (∀ X, (X.cell? ⟨g, 0, none⟩ = some (.int .i64 t) ∧ X.cell? ⟨g, 1, none⟩ = some (.int .i64 f) ∧ X.cell? ⟨g, 2, none⟩ = some (.int .i64 u) ∧ Below w4.heap.size w4 X) → Below w4.heap.size w4 X) := Lib.hid fun X hs => hs.2.2.2
  have KT : Hid (∀ X X', (X.cell? ⟨g, 0, none⟩ = some (.int .i64 t) ∧ X.cell? ⟨g, 1, none⟩ = some (.int .i64 f) ∧ X.cell? ⟨g, 2, none⟩ = some (.int .i64 u) ∧ Below w4.heap.size w4 X) → Below X.heap.size X X' → X'.cell? ⟨g, 0, none⟩ = some (.int .i64 t) ∧ X'.cell? ⟨g, 1, none⟩ = some (.int .i64 f) ∧ X'.cell? ⟨g, 2, none⟩ = some (.int .i64 u) ∧ Below w4.heap.size w4 X') := Lib.hid fun X X' hs hb => KS.out _ (hs.2.2.2.trans (hb.mono hs.2.2.2.size))
  have hla := addS_len l (t, f, u)
  have hlc := cutS_len l (t, f, u)
  have hll := HLL.out
  have HCA : Hid (∀ X, Below w4.heap.size w4 X → Calls Try.prog 20 #[.slice (some ⟨gL, 0, none⟩) m (m + 3), .agg #[.int .i64 t, .int .i64 f, .int .i64 u]] X fun e w' => (∃ B' m' d', e = .returned (.slice B' m' d') ∧ SO w' X.heap.size (.slice B' m' d') m' (addS l (t, f, u))) ∧ Below X.heap.size X w') := Lib.hid fun X hX => padd_any _ m (m + 3) l t f u X (HLL2.out X hX) (by omega) (by omega) HC.out HSR.out
  have HCT : Hid (∀ X, Below w4.heap.size w4 X → Calls Try.prog 21 #[.slice (some ⟨gL, 0, none⟩) m (m + 3), .agg #[.int .i64 t, .int .i64 f, .int .i64 u]] X fun e w' => (∃ B' m' d', e = .returned (.slice B' m' d') ∧ SO w' X.heap.size (.slice B' m' d') m' (cutS l (t, f, u))) ∧ Below X.heap.size X w') := Lib.hid fun X hX => pcut_any _ m (m + 3) l t f u X (HLL2.out X hX) (by omega) (by omega) HC.out HSR.out
  have HRA : Hid (∀ X, Below w4.heap.size w4 X → Calls Try.prog 23 #[.slice B m d, .agg #[.int .i64 t, .int .i64 f, .int .i64 u]] X fun e w' => (∃ B' m' d', e = .returned (.slice B' m' d') ∧ SO w' X.heap.size (.slice B' m' d') m' (addS l (t, f, u)) ∧ m' ≤ m + 1) ∧ Below X.heap.size X w') := Lib.hid fun X hX => radd_any B m d l t f u X (HLV.out X hX) (by omega)
  have HRC : Hid (∀ X, Below w4.heap.size w4 X → Calls Try.prog 24 #[.slice B m d, .agg #[.int .i64 t, .int .i64 f, .int .i64 u]] X fun e w' => (∃ B' m' d', e = .returned (.slice B' m' d') ∧ SO w' X.heap.size (.slice B' m' d') m' (cutS l (t, f, u)) ∧ m' ≤ 2 * m) ∧ Below X.heap.size X w') := Lib.hid fun X hX => rcut_any B m d l t f u X (HLV.out X hX) (by omega)
  have HAL : Hid ((addS l (t, f, u)).length ≤ 100) := Lib.hid (by omega)
  have HCL : Hid ((cutS l (t, f, u)).length ≤ 100) := Lib.hid (by omega)
  have HAC := Lib.hid (addS_canon HC.out HSR.out)
  have HCC := Lib.hid (cutS_canon HC.out HSR.out)
  clear hla hlc hll
  go_region_held3 (fun X => X.cell? ⟨g, 0, none⟩ = some (.int .i64 t) ∧ X.cell? ⟨g, 1, none⟩ = some (.int .i64 f) ∧ X.cell? ⟨g, 2, none⟩ = some (.int .i64 u) ∧ Below w4.heap.size w4 X)
    (first
      | exact KS.out _ (Below.refl _ _).drew
      | exact KT.out _ _ (by assumption) hbA
      | exact KT.out _ _ (by assumption) hbC)
    (first
      | (go_at_call 20
         (with_reducible refine (HCA.out _ (KB.out _ ?_)).mono ?_)
         · assumption
         rintro e wA ⟨⟨BA, mA, dA, rfl, hoA⟩, hbA⟩)
      | (go_at_call 21
         (with_reducible refine (HCT.out _ (KB.out _ ?_)).mono ?_)
         · assumption
         rintro e wC ⟨⟨BC, mC, dC, rfl, hoC⟩, hbC⟩))
  all_goals
    have hvx := KB.out _ (by assumption)
    go_wp2_with (first
      | (go_at_call 23
         (with_reducible refine (HRA.out _ hvx).mono ?_)
         rintro e w5 ⟨⟨B5, m5, d5, rfl, ho5, hm5⟩, hb5⟩
         have hA5 : Below wA.heap.size wA w5 := by repeat (first | exact Below.refl _ _ | assumption | (apply below_step; assumption))
         have hC5 : Below wC.heap.size wC w5 := by repeat (first | exact Below.refl _ _ | assumption | (apply below_step; assumption))
         have hv5 := hvx.trans (hb5.mono hvx.size)
         have HMA := Lib.hid hoA.len
         have HMC := Lib.hid hoC.len
         obtain rfl : m5 = mA := by rw [← ho5.len, HMA.out]
         have HA5 := Lib.hid (hoA.at_sl hA5)
         have HC5 := Lib.hid (hoC.at_sl hC5)
         have HR5 := Lib.hid ho5.sl
         have HV5 := Lib.hid hv5
         have y0 : w5.cell? ⟨g, 0, none⟩ = some (.int .i64 t) := (HWV.out _ hv5).cell 0
         have y1 : w5.cell? ⟨g, 1, none⟩ = some (.int .i64 f) := (HWV.out _ hv5).cell 1
         have y2 : w5.cell? ⟨g, 2, none⟩ = some (.int .i64 u) := (HWV.out _ hv5).cell 2
         clear hA5 hC5 hv5 ho5 hb5)
      | (go_at_call 22
         (with_reducible refine (same_below BA B5 m5 dA d5 _ w5 HA5.out HR5.out (by have := HMA.out; have := HAL.out; omega)).mono ?_)
         rintro e w6 ⟨rfl, hb6⟩
         have hv6 := HV5.out.trans (hb6.mono HV5.out.size)
         have HA6 := Lib.hid (HA5.out.below hb6)
         have HC6 := Lib.hid (HC5.out.below hb6)
         have HV6 := Lib.hid hv6
         have p0 : w6.cell? ⟨g, 0, none⟩ = some (.int .i64 t) := (HWV.out _ hv6).cell 0
         have p1 : w6.cell? ⟨g, 1, none⟩ = some (.int .i64 f) := (HWV.out _ hv6).cell 1
         have p2 : w6.cell? ⟨g, 2, none⟩ = some (.int .i64 u) := (HWV.out _ hv6).cell 2
         clear hv6 hb6)
      | (go_at_call 24
         (with_reducible refine (HRC.out _ HV6.out).mono ?_)
         rintro e w7 ⟨⟨B7, m7, d7, rfl, ho7, hm7⟩, hb7⟩
         obtain rfl : m7 = mC := by rw [← ho7.len, HMC.out]
         have hv7 := HV6.out.trans (hb7.mono HV6.out.size)
         have HA7 := Lib.hid (HA6.out.below hb7)
         have HC7 := Lib.hid (HC6.out.below hb7)
         have HR7 := Lib.hid ho7.sl
         have HV7 := Lib.hid hv7
         clear hv7 hb7 ho7)
      | (go_at_call 22
         (with_reducible refine (same_below BC B7 m7 dC d7 _ w7 HC7.out HR7.out (by have := HMC.out; have := HCL.out; omega)).mono ?_)
         rintro e w8 ⟨rfl, hb8⟩
         have HA8 := Lib.hid (HA7.out.below hb8)
         have HC8 := Lib.hid (HC7.out.below hb8)
         have HV8 := Lib.hid (HV7.out.trans (hb8.mono HV7.out.size))
         clear hb8)
      | (go_at_call 15
         (with_reducible refine (stays_below B m d gL l w8 (HLV.out _ HV8.out) (HT2.out _ HV8.out) (by omega)).mono ?_)
         rintro e w9 ⟨rfl, hb9⟩
         have HA9 := Lib.hid (HA8.out.below hb9)
         have HC9 := Lib.hid (HC8.out.below hb9)
         have HV9 := Lib.hid (HV8.out.trans (hb9.mono HV8.out.size))
         clear hb9)
      | (go_at_call 13
         (with_reducible refine (pcanon_any BA m5 dA _ true w9 HA9.out (by simpa using adj_of_canon HMA.out HAC.out) (by have := HMA.out; have := HAL.out; omega)).mono ?_)
         rintro e w10 ⟨rfl, hb10⟩
         have HC10 := Lib.hid (HC9.out.below hb10)
         have HV10 := Lib.hid (HV9.out.trans (hb10.mono HV9.out.size))
         clear hb10)
      | (go_at_call 13
         (with_reducible refine (pcanon_any BC m7 dC _ true w10 HC10.out (by simpa using adj_of_canon HMC.out HCC.out) (by have := HMC.out; have := HCL.out; omega)).mono ?_)
         rintro e w11 ⟨rfl, hb11⟩
         have HV11 := Lib.hid (HV10.out.trans (hb11.mono HV10.out.size))
         clear hb11))
    go_ret
    exact ⟨rfl, HB4.out.trans (HV11.out.mono HB4.out.size)⟩
theorem walk (a0 : Option Addr) (len0 cap0 : Nat) (z0 : List Int) (a1 : Int) (w : World) (w0 : IsRow .i64 w a0 len0 cap0 z0) (w1 : (Lit.int .i64 a1).wf = true) :
    Calls Try.prog 4 #[.slice a0 len0 cap0, .int .i64 a1] w fun e w' => e = .returned (.bool true) ∧ Below w.heap.size w w' :=
  adds_main a0 len0 cap0 _ a1 w w0.row (fun k hk => bounds_i64 (w0.wf k hk)) (bounds_i64 w1).1 (bounds_i64 w1).2

/-! ### THE ROW's STEP: WRITTEN OUT: LEAVE IT -/
set_option maxRecDepth 100000 in
theorem lifted (os : Os) (started : os.Started) (H : Type) (enc : TypeId × Value → H) :
    ReturnsInHanded {} Try.checked os 4 .any (Rows.spanAddsSpec.pre6 enc Try.prog Try.f4 Rows.spanAddsRow.domain false) (Rows.spanAddsSpec.post enc Try.prog Try.f4 false true false false) := by
  refine returnsInHanded_of_change (C := Try.checked) own started (by kernel_rfl) Try.func4
    (ChangeSpec.witness6 (enc := enc) (C := Try.checked) false ⟨#[], #[.slice none 0 0, .int .i64 0], []⟩ 8 (by kernel_rfl) (by kernel_rfl) (by kernel_rfl) (by kernel_rfl)) ?_
  intro W base args ds gs before hval0 hW hcnd _
  have hval : ∀ (j : Nat) t v, Try.f4.params[j]? = some t → args[j]? = some v → Value.okWide Try.prog W .any base t v := hval0
  have hW' := hW
  obtain ⟨p, q, hA0, hV, rfl, hfz, hnd⟩ := hW
  have hA : DataW.TrodAll enc Try.prog W 0 (fun _ => true) true Try.f4.params.toList args.toList ds p := hA0
  rw [Try.params4] at hA hval
  obtain ⟨v0, vs0, d0, ds0, p0, q0, hargs, rfl, rfl, h0, r0⟩ := trodAll_cons hA
  obtain ⟨v1, vs1, d1, ds1, p1, q1, rfl, rfl, rfl, h1, r1⟩ := trodAll_cons r0
  obtain ⟨rfl, rfl, rfl⟩ := trodAll_nil r1
  obtain rfl : args = #[v0, v1] := by cases args; simp_all
  obtain ⟨rfl, rfl⟩ := trodVars_none hV
  obtain ⟨a0, len0, cap0, rfl⟩ := okWide_slice Try.underlying25 (hval 0 25 v0 rfl rfl)
  have k0 := h0
  have lt0 : ∀ x ∈ p0, x.block < W.heap.size := by obtain ⟨m, hm⟩ := k0; exact DataW.trod_lt m _ _ _ hm
  obtain ⟨z0, w0⟩ : ∃ zs, IsRow .i64 W a0 len0 cap0 zs := by
    obtain ⟨fuel, hf⟩ := h0
    rcases open_ints Try.underlying25 Try.underlying3 (by kernel_rfl) hf with ⟨hcs, _⟩ | ⟨x, l, c, zs, hcs, _, hl, hm, hz, _, hcell, hwz⟩
    · simp [Value.cells] at hcs
      obtain ⟨rfl, rfl, rfl⟩ := hcs
      exact ⟨[], .inl ⟨rfl, rfl, rfl, rfl⟩⟩
    · simp [Value.cells] at hcs
      obtain ⟨rfl, rfl, rfl⟩ := hcs
      exact ⟨zs, .inr ⟨_, rfl, hl, hm, by simpa using hz, hcell, hwz⟩⟩
  obtain ⟨a1, rfl, rfl, rfl, w1⟩ := open_int Try.underlying3 (hval 1 3 v1 rfl rfl) h1
  clear hA0 hval0
  refine (walk a0 len0 cap0 z0 a1 W w0 w1).mono fun e W' ⟨he, bel⟩ => ?_
  subst he
  exact ⟨_, rfl, _, _, _, [], _, [], hW', trodAll_mk1 (shut_bool Try.underlying4 _), (trodAll_cons_mk (Below.trod laidOut (by kernel_rfl) (of_decide_eq_true (by kernel_rfl)) k0 bel lt0) (trodAll_cons_mk (shut_int Try.underlying3 w1) trodAll_mk0)), rfl, bel.frame _, fun h => by cases h⟩

theorem over : Rows.spanAddsRow.holds Try.pinned (OpenSpec.ofChange Rows.spanAddsSpec) :=
  OpenClaim.holds_of_wide 4 Try.f4 rfl rfl rfl rfl rfl rfl rfl ⟨rfl, rfl, rfl, rfl, rfl⟩ rfl rfl rfl rfl rfl (by kernel_rfl) Try.func4 (by kernel_rfl)
    (of_decide_eq_true (by kernel_rfl)) (by unfold Func.isWrapper; first | (rw [if_pos (by decide +kernel)]; kernel_rfl) | (rw [if_neg (by decide +kernel)]; exact ⟨rfl, rfl⟩))
    (fun os started H enc _ => lifted os started H enc)

/-- ████ THE STATEMENT ████ -/
theorem proved : Rows.SpanAddsSaid := over
#print axioms proved
end Go.Proofs.Ytlnmdepaobocnaa.spanAdds

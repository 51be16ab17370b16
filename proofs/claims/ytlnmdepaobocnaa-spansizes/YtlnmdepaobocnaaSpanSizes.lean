/- Proved: for every list of ints and every int, busbarlaw12.SpanSizes returns true. Conditions: none. -/
import Derived.Test.YtlnmdepaobocnaaSRun
import Derived.Test.YtlnmdepaobocnaaPCov
namespace Go.Proofs.Ytlnmdepaobocnaa.spanSizes
open Go.ChangeShapes Go.WideShapes Go.ChangeAt Go.RowKit
open Go.ChangeMaps (open_string shut_string)
set_option linter.unusedVariables false


set_option maxRecDepth 100000 in
set_option maxHeartbeats 8000000 in
theorem sizes_main (A : Option Addr) (n c : Nat) (zs : List Int) (k : Int) (w : World) (hr : Row .i64 w w.heap.size A n zs) (hz : In64S zs) (k0 : -9223372036854775808 ≤ k) (k1 : k ≤ 9223372036854775807) :
    Calls Try.prog 8 #[.slice A n c, .int .i64 k] w fun e w' => e = .returned (.bool true) ∧ Below w.heap.size w w' := by
  have HR := Lib.hid hr
  have HZ := Lib.hid hz
  have HSR := Lib.hid (spOf_right k)
  have CS := Lib.hid (fun W => lspan_any k W k0 k1)
  obtain ⟨⟨t, f, u⟩, hs⟩ : ∃ s, spOf k = s := ⟨_, rfl⟩
  rw [hs] at HSR CS
  have hq := HSR.out
  unfold rightS at hq
  dsimp only at hq
  obtain ⟨q1, q2, q3, q4, q5⟩ := hq
  clear hr hz hs k0 k1
  go_enter Try.func8, Try.ntmps8
  go_wp2_with (first
    | (go_at_call 9; refine (awake12_any _).mono ?_; rintro e w1 ⟨rfl, hb⟩; have HB1 := Lib.hid hb; clear hb)
    | (go_at_call 16
       (with_reducible refine (lspans_any A n c zs w1 ((HR.out.below HB1.out).more HB1.out.size) HZ.out).mono ?_)
       rintro e w2 ⟨⟨B, m, d, l, rfl, ho, hc, hm⟩, hb⟩
       have HB2 := Lib.hid (HB1.out.trans (hb.mono HB1.out.size))
       have HO2 := Lib.hid ho
       have HC := Lib.hid hc
       have HMD := Lib.hid ho.cap
       have HLL := Lib.hid ho.len
       clear hb ho hc)
    | (go_at_call 19
       (with_reducible refine (CS.out _).mono ?_)
       rintro e w3 ⟨rfl, hb⟩
       have HB3 := Lib.hid (HB2.out.trans (hb.mono HB2.out.size))
       have HL3 := Lib.hid (HO2.out.at_sl hb)
       clear hb))
  obtain ⟨V, hV⟩ : ∃ V, w3.alloc (.cells #[.int .i64 t, .int .i64 f, .int .i64 u] 23) = V := ⟨_, rfl⟩
  have hbV : Below w3.heap.size w3 V := by rw [← hV]; exact (Below.refl _ _).alloc (Nat.le_refl _) _
  have hwV : WholeV V w3.heap.size 23 [.int .i64 t, .int .i64 f, .int .i64 u] := by rw [← hV]; exact heap_alloc_new w3 _
  have HBV := Lib.hid (HB3.out.trans (hbV.mono HB3.out.size))
  have hlV := HL3.out.below hbV
  have HLV : Hid (∀ X, Below V.heap.size V X → SL X B m l) := Lib.hid fun X hX => hlV.below hX
  have HWV : Hid (∀ X, Below V.heap.size V X → WholeV X w3.heap.size 23 [.int .i64 t, .int .i64 f, .int .i64 u]) := Lib.hid fun X hX => hwV.below hX hwV.lt
  obtain ⟨g, hg⟩ : ∃ g, w3.heap.size = g := ⟨_, rfl⟩
  rw [hV, hg]
  rw [hg] at HWV
  have KS : Hid (∀ X, Below V.heap.size V X → X.cell? ⟨g, 0, none⟩ = some (.int .i64 t) ∧ X.cell? ⟨g, 1, none⟩ = some (.int .i64 f) ∧ X.cell? ⟨g, 2, none⟩ = some (.int .i64 u) ∧ Below V.heap.size V X) := Lib.hid fun X hX => ⟨(HWV.out X hX).cell 0, (HWV.out X hX).cell 1, (HWV.out X hX).cell 2, hX⟩
  have KB : Hid (∀ X, (X.cell? ⟨g, 0, none⟩ = some (.int .i64 t) ∧ X.cell? ⟨g, 1, none⟩ = some (.int .i64 f) ∧ X.cell? ⟨g, 2, none⟩ = some (.int .i64 u) ∧ Below V.heap.size V X) → Below V.heap.size V X) := Lib.hid fun X hs => hs.2.2.2
  have KT : Hid (∀ X X', (X.cell? ⟨g, 0, none⟩ = some (.int .i64 t) ∧ X.cell? ⟨g, 1, none⟩ = some (.int .i64 f) ∧ X.cell? ⟨g, 2, none⟩ = some (.int .i64 u) ∧ Below V.heap.size V X) → Below X.heap.size X X' → X'.cell? ⟨g, 0, none⟩ = some (.int .i64 t) ∧ X'.cell? ⟨g, 1, none⟩ = some (.int .i64 f) ∧ X'.cell? ⟨g, 2, none⟩ = some (.int .i64 u) ∧ Below V.heap.size V X') := Lib.hid fun X X' hs hb => KS.out _ (hs.2.2.2.trans (hb.mono hs.2.2.2.size))
  clear hV hbV hwV hlV hg
  have hsz := sizes HC.out HSR.out
  have hba := sizeS_bound (addS l (t, f, u)) (canonS_right (addS_canon HC.out HSR.out))
  have hbl := sizeS_bound l (canonS_right HC.out)
  have hbc := sizeS_bound (cutS l (t, f, u)) (canonS_right (cutS_canon HC.out HSR.out))
  have hla := addS_len l (t, f, u)
  have hlc := cutS_len l (t, f, u)
  have hll := HLL.out
  obtain ⟨zA, hzA⟩ : ∃ z, sizeS (addS l (t, f, u)) = z := ⟨_, rfl⟩
  obtain ⟨zC, hzC⟩ : ∃ z, sizeS (cutS l (t, f, u)) = z := ⟨_, rfl⟩
  obtain ⟨zL, hzL⟩ : ∃ z, sizeS l = z := ⟨_, rfl⟩
  rw [hzA, hzC, hzL] at hsz
  rw [hzA] at hba
  rw [hzC] at hbc
  rw [hzL] at hbl
  obtain ⟨e1, e2, e3, e4, e5⟩ := hsz
  have e1' : zA - zC = u - f := e1
  have hw1 : IntKind.i64.wrap (u - f) = u - f := IntWalk.i64_in _ (by omega)
  obtain ⟨bC, hbC⟩ : ∃ b : Bool, b = true ↔ coversS l (t, f, u) := by
    by_cases h : coversS l (t, f, u)
    · exact ⟨true, by simp [h]⟩
    · exact ⟨false, by simp [h]⟩
  obtain ⟨bM, hbM⟩ : ∃ b : Bool, b = true ↔ meetsS l (t, f, u) := by
    by_cases h : meetsS l (t, f, u)
    · exact ⟨true, by simp [h]⟩
    · exact ⟨false, by simp [h]⟩
  have f1 : (zL == zA) = bC := by
    cases bC
    · exact beq_eq_false_iff_ne.2 fun h => absurd (hbC.2 (e4.1 h)) (by decide)
    · exact beq_iff_eq.2 (e4.2 (hbC.1 rfl))
  have f2 : (zL == zC) = !bM := by
    cases bM
    · exact beq_iff_eq.2 (e5.2 fun h => absurd (hbM.2 h) (by decide))
    · exact beq_eq_false_iff_ne.2 fun h => (e5.1 h) (hbM.1 rfl)
  have HCC : Hid (∀ X, Below V.heap.size V X → Calls Try.prog 28 #[.slice B m d, .agg #[.int .i64 t, .int .i64 f, .int .i64 u]] X fun e w' => e = .returned (.bool bC) ∧ Below X.heap.size X w') := Lib.hid fun X hX => pcovers_any B m d l t f u bC X (HLV.out X hX) (by omega) HMD.out HC.out (.inl ⟨by omega, hbC⟩)
  have HCM : Hid (∀ X, Below V.heap.size V X → Calls Try.prog 30 #[.slice B m d, .agg #[.int .i64 t, .int .i64 f, .int .i64 u]] X fun e w' => e = .returned (.bool bM) ∧ Below X.heap.size X w') := Lib.hid fun X hX => pmeets_any B m d l t f u bM X (HLV.out X hX) (by omega) HMD.out HC.out (.inl ⟨by omega, hbM⟩)
  have HCA : Hid (∀ X, Below V.heap.size V X → Calls Try.prog 20 #[.slice B m d, .agg #[.int .i64 t, .int .i64 f, .int .i64 u]] X fun e w' => (∃ B' m' d', e = .returned (.slice B' m' d') ∧ SO w' X.heap.size (.slice B' m' d') m' (addS l (t, f, u))) ∧ Below X.heap.size X w') := Lib.hid fun X hX => padd_any B m d l t f u X (HLV.out X hX) (by omega) HMD.out HC.out HSR.out
  have HCT : Hid (∀ X, Below V.heap.size V X → Calls Try.prog 21 #[.slice B m d, .agg #[.int .i64 t, .int .i64 f, .int .i64 u]] X fun e w' => (∃ B' m' d', e = .returned (.slice B' m' d') ∧ SO w' X.heap.size (.slice B' m' d') m' (cutS l (t, f, u))) ∧ Below X.heap.size X w') := Lib.hid fun X hX => pcut_any B m d l t f u X (HLV.out X hX) (by omega) HMD.out HC.out HSR.out
  have HSL : Hid (∀ X, Below V.heap.size V X → Calls Try.prog 32 #[.slice B m d] X fun e w' => e = .returned (.int .i64 zL) ∧ Below X.heap.size X w') := Lib.hid fun X hX => by
    have h := psize_any B m d l X (HLV.out X hX) (canonS_right HC.out) (by omega)
    rw [hzL] at h
    exact h
  have HSA : Hid (∀ (w5 X : World) (B' : Option Addr) (m' d' b : Nat), SO w5 b (.slice B' m' d') m' (addS l (t, f, u)) → Below w5.heap.size w5 X → Calls Try.prog 32 #[.slice B' m' d'] X fun e w' => e = .returned (.int .i64 zA) ∧ Below X.heap.size X w') := Lib.hid fun w5 X B' m' d' b ho hX => by
    have h := psize_any B' m' d' _ X (ho.at_sl hX) (canonS_right (addS_canon HC.out HSR.out)) (by have := ho.len; omega)
    rw [hzA] at h
    exact h
  have HSC : Hid (∀ (w5 X : World) (B' : Option Addr) (m' d' b : Nat), SO w5 b (.slice B' m' d') m' (cutS l (t, f, u)) → Below w5.heap.size w5 X → Calls Try.prog 32 #[.slice B' m' d'] X fun e w' => e = .returned (.int .i64 zC) ∧ Below X.heap.size X w') := Lib.hid fun w5 X B' m' d' b ho hX => by
    have h := psize_any B' m' d' _ X (ho.at_sl hX) (canonS_right (cutS_canon HC.out HSR.out)) (by have := ho.len; omega)
    rw [hzC] at h
    exact h
  have HS1 : Hid (∀ X : World, Calls Try.prog 32 #[.slice (some ⟨X.heap.size, 0, none⟩) 1 1] (X.alloc (.cells #[.int .i64 t, .int .i64 f, .int .i64 u] 23)) fun e w' => e = .returned (.int .i64 (u - f)) ∧ Below (X.alloc (.cells #[.int .i64 t, .int .i64 f, .int .i64 u] 23)).heap.size (X.alloc (.cells #[.int .i64 t, .int .i64 f, .int .i64 u] 23)) w') := Lib.hid fun X => by
    have h := psize_any (some ⟨X.heap.size, 0, none⟩) 1 1 [(t, f, u)] _ (sl_one X t f u 23) (fun x hx => by obtain rfl := List.mem_singleton.1 hx; exact HSR.out) (by omega)
    rw [size_one] at h
    exact h
  clear hbC hbM hzA hzC hzL hla hlc hll hba hbc hbl e1 e4 e5
  go_region_held3 (fun X => X.cell? ⟨g, 0, none⟩ = some (.int .i64 t) ∧ X.cell? ⟨g, 1, none⟩ = some (.int .i64 f) ∧ X.cell? ⟨g, 2, none⟩ = some (.int .i64 u) ∧ Below V.heap.size V X)
    (first
      | exact KS.out _ (Below.refl _ _).drew
      | exact KT.out _ _ (by assumption) hbA
      | exact KT.out _ _ (by assumption) hbC
      | exact KT.out _ _ (by assumption) hbSA
      | exact KT.out _ _ (by assumption) hbSC
      | exact KT.out _ _ (by assumption) hbSL)
    (first
      | (go_at_call 20
         (with_reducible refine (HCA.out _ (KB.out _ ?_)).mono ?_)
         · assumption
         rintro e wA ⟨⟨BA, mA, dA, rfl, hoA⟩, hbA⟩)
      | (go_at_call 21
         (with_reducible refine (HCT.out _ (KB.out _ ?_)).mono ?_)
         · assumption
         rintro e wC ⟨⟨BC, mC, dC, rfl, hoC⟩, hbC⟩)
      | (go_at_call 32
         (with_reducible refine (HSL.out _ (KB.out _ ?_)).mono ?_)
         · assumption
         rintro e wSL ⟨rfl, hbSL⟩)
      | (go_at_call 32
         (with_reducible refine (HSA.out wA _ BA mA dA _ hoA ?_).mono ?_)
         · repeat (first | exact Below.refl _ _ | assumption | (apply below_step; assumption))
         rintro e wSA ⟨rfl, hbSA⟩)
      | (go_at_call 32
         (with_reducible refine (HSC.out wC _ BC mC dC _ hoC ?_).mono ?_)
         · repeat (first | exact Below.refl _ _ | assumption | (apply below_step; assumption))
         rintro e wSC ⟨rfl, hbSC⟩))
  all_goals
    have hvx := KB.out _ (by assumption)
    go_wp2_with (first
      | (go_at_call 32
         (with_reducible refine (HS1.out _).mono ?_)
         rintro e w7 ⟨rfl, hb7⟩
         have hv7 := (hvx.alloc hvx.size (.cells #[.int .i64 t, .int .i64 f, .int .i64 u] 23)).trans (hb7.mono (hvx.alloc hvx.size _).size)
         have y0 : w7.cell? ⟨g, 0, none⟩ = some (.int .i64 t) := (HWV.out _ hv7).cell 0
         have y1 : w7.cell? ⟨g, 1, none⟩ = some (.int .i64 f) := (HWV.out _ hv7).cell 1
         have y2 : w7.cell? ⟨g, 2, none⟩ = some (.int .i64 u) := (HWV.out _ hv7).cell 2
         have HV7 := Lib.hid hv7
         clear hv7 hb7)
      | (go_at_call 28
         (with_reducible refine (HCC.out _ HV7.out).mono ?_)
         rintro e w8 ⟨rfl, hb8⟩
         have hv8 := HV7.out.trans (hb8.mono HV7.out.size)
         have x0 : w8.cell? ⟨g, 0, none⟩ = some (.int .i64 t) := (HWV.out _ hv8).cell 0
         have x1 : w8.cell? ⟨g, 1, none⟩ = some (.int .i64 f) := (HWV.out _ hv8).cell 1
         have x2 : w8.cell? ⟨g, 2, none⟩ = some (.int .i64 u) := (HWV.out _ hv8).cell 2
         have HV8 := Lib.hid hv8
         clear hv8 hb8)
      | (go_at_call 30
         (with_reducible refine (HCM.out _ HV8.out).mono ?_)
         rintro e w9 ⟨rfl, hb9⟩
         have HV9 := Lib.hid (HV8.out.trans (hb9.mono HV8.out.size))
         clear hb9))
    go_ret
    exact ⟨rfl, HBV.out.trans (HV9.out.mono HBV.out.size)⟩
theorem walk (a0 : Option Addr) (len0 cap0 : Nat) (z0 : List Int) (a1 : Int) (w : World) (w0 : IsRow .i64 w a0 len0 cap0 z0) (w1 : (Lit.int .i64 a1).wf = true) :
    Calls Try.prog 8 #[.slice a0 len0 cap0, .int .i64 a1] w fun e w' => e = .returned (.bool true) ∧ Below w.heap.size w w' :=
  sizes_main a0 len0 cap0 _ a1 w w0.row (fun k hk => bounds_i64 (w0.wf k hk)) (bounds_i64 w1).1 (bounds_i64 w1).2

/-! ### THE ROW's STEP: WRITTEN OUT: LEAVE IT -/
set_option maxRecDepth 100000 in
theorem lifted (os : Os) (started : os.Started) (H : Type) (enc : TypeId × Value → H) :
    ReturnsInHanded {} Try.checked os 8 .any (Rows.spanSizesSpec.pre6 enc Try.prog Try.f8 Rows.spanSizesRow.domain false) (Rows.spanSizesSpec.post enc Try.prog Try.f8 false true false false) := by
  refine returnsInHanded_of_change (C := Try.checked) own started (by kernel_rfl) Try.func8
    (ChangeSpec.witness6 (enc := enc) (C := Try.checked) false ⟨#[], #[.slice none 0 0, .int .i64 0], []⟩ 8 (by kernel_rfl) (by kernel_rfl) (by kernel_rfl) (by kernel_rfl)) ?_
  intro W base args ds gs before hval0 hW hcnd _
  have hval : ∀ (j : Nat) t v, Try.f8.params[j]? = some t → args[j]? = some v → Value.okWide Try.prog W .any base t v := hval0
  have hW' := hW
  obtain ⟨p, q, hA0, hV, rfl, hfz, hnd⟩ := hW
  have hA : DataW.TrodAll enc Try.prog W 0 (fun _ => true) true Try.f8.params.toList args.toList ds p := hA0
  rw [Try.params8] at hA hval
  obtain ⟨v0, vs0, d0, ds0, p0, q0, hargs, rfl, rfl, h0, r0⟩ := trodAll_cons hA
  obtain ⟨v1, vs1, d1, ds1, p1, q1, rfl, rfl, rfl, h1, r1⟩ := trodAll_cons r0
  obtain ⟨rfl, rfl, rfl⟩ := trodAll_nil r1
  obtain rfl : args = #[v0, v1] := by cases args; simp_all
  obtain ⟨rfl, rfl⟩ := trodVars_none hV
  obtain ⟨a0, len0, cap0, rfl⟩ := okWide_slice Try.underlying25 (hval 0 25 v0 rfl rfl)
  have k0 := h0
  have lt0 : ∀ x ∈ p0, x.block < W.heap.size := by obtain ⟨m, hm⟩ := k0; exact DataW.trod_lt m _ _ _ hm
  obtain ⟨z0, w0⟩ : ∃ zs, IsRow .i64 W a0 len0 cap0 zs := by
    obtain ⟨fuel, hf⟩ := h0
    rcases open_ints Try.underlying25 Try.underlying3 (by kernel_rfl) hf with ⟨hcs, _⟩ | ⟨x, l, c, zs, hcs, _, hl, hm, hz, _, hcell, hwz⟩
    · simp [Value.cells] at hcs
      obtain ⟨rfl, rfl, rfl⟩ := hcs
      exact ⟨[], .inl ⟨rfl, rfl, rfl, rfl⟩⟩
    · simp [Value.cells] at hcs
      obtain ⟨rfl, rfl, rfl⟩ := hcs
      exact ⟨zs, .inr ⟨_, rfl, hl, hm, by simpa using hz, hcell, hwz⟩⟩
  obtain ⟨a1, rfl, rfl, rfl, w1⟩ := open_int Try.underlying3 (hval 1 3 v1 rfl rfl) h1
  clear hA0 hval0
  refine (walk a0 len0 cap0 z0 a1 W w0 w1).mono fun e W' ⟨he, bel⟩ => ?_
  subst he
  exact ⟨_, rfl, _, _, _, [], _, [], hW', trodAll_mk1 (shut_bool Try.underlying4 _), (trodAll_cons_mk (Below.trod laidOut (by kernel_rfl) (of_decide_eq_true (by kernel_rfl)) k0 bel lt0) (trodAll_cons_mk (shut_int Try.underlying3 w1) trodAll_mk0)), rfl, bel.frame _, fun h => by cases h⟩

theorem over : Rows.spanSizesRow.holds Try.pinned (OpenSpec.ofChange Rows.spanSizesSpec) :=
  OpenClaim.holds_of_wide 8 Try.f8 rfl rfl rfl rfl rfl rfl rfl ⟨rfl, rfl, rfl, rfl, rfl⟩ rfl rfl rfl rfl rfl (by kernel_rfl) Try.func8 (by kernel_rfl)
    (of_decide_eq_true (by kernel_rfl)) (by unfold Func.isWrapper; first | (rw [if_pos (by decide +kernel)]; kernel_rfl) | (rw [if_neg (by decide +kernel)]; exact ⟨rfl, rfl⟩))
    (fun os started H enc _ => lifted os started H enc)

/-- ████ THE STATEMENT ████ -/
theorem proved : Rows.SpanSizesSaid := over
#print axioms proved
end Go.Proofs.Ytlnmdepaobocnaa.spanSizes

/- Proved: for all bytes and every number, busbarlaw2.BitsUnpacks returns true, and its argument reads as before. Conditions: none. -/
import Derived.Test.YthcehfofifdmbaaAwake2
namespace Go.Proofs.Ythcehfofifdmbaa.bitsUnpacks
open Go.ChangeShapes Go.WideShapes Go.ChangeAt Go.RowKit
open Go.ChangeMaps (open_string shut_string)
set_option linter.unusedVariables false


theorem walk_long (a0 : Option Addr) (len0 cap0 : Nat) (i : Int) (w : World) (hlen : 300 < len0) :
    Calls Try.prog 4 #[.slice a0 len0 cap0, .int .i64 i] w fun e w' => e = .returned (.bool true) ∧ Below w.heap.size w w' := by
  go_enter Try.func4, Try.ntmps4
  go_wp2_with (go_at_call 8; refine (awake_any _).mono ?_; rintro e w1 ⟨rfl, hb⟩; have HB := Lib.hid hb; clear hb)
  go_ret
  exact ⟨rfl, HB.out⟩

set_option maxHeartbeats 1000000 in
theorem walk_no (A : Option Addr) (n c : Nat) (zs : List Int) (i : Int) (w : World) (hr : Row .u8 w w.heap.size A n zs) (hn : n ≤ 300) (h0 : -9223372036854775808 ≤ i) (h1 : i ≤ 9223372036854775807) (h : i < 0 ∨ nbI i ≠ n) :
    Calls Try.prog 4 #[.slice A n c, .int .i64 i] w fun e w' => e = .returned (.bool true) ∧ Below w.heap.size w w' := by
  have HR := Lib.hid hr
  have H := Lib.hid h
  have H0 := Lib.hid h0
  have H1 := Lib.hid h1
  obtain ⟨x, hx⟩ : ∃ x, x = nbI i := ⟨_, rfl⟩
  have C1 : Hid (∀ W, Calls Try.prog 17 #[.int .i64 i] W fun e w' => e = .returned (.int .i64 x) ∧ W = w') := fun W => by rw [hx]; exact bytes_any i W h0 h1
  have C2 : Hid (∀ W, Calls Try.prog 18 #[.int .i64 i] W fun e w' => e = .returned (.int .i64 x) ∧ W = w') := fun W => by rw [hx]; exact refbytes_any i W h0 h1
  clear hr h hx h0 h1
  go_enter Try.func4, Try.ntmps4
  go_wp2_with (first
    | (go_at_call 8
       refine (awake_any _).mono ?_
       rintro e w1 ⟨rfl, hb⟩
       have HB1 := Lib.hid hb
       have HR1 := Lib.hid ((HR.out.below hb).more hb.size)
       clear hb)
    | (go_at_call 15
       refine (lent_all A n c zs _ HR1.out (by omega)).mono ?_
       rintro e w2 ⟨rfl, hr2, hm2, hw2, hb, hz⟩
       have HR2 := Lib.hid hr2
       have HM2 := Lib.hid hm2
       have HW2 := Lib.hid hw2
       have HB2 := Lib.hid (HB1.out.trans (hb.mono HB1.out.size))
       clear hr2 hm2 hw2 hb)
    | (go_at_call 11
       refine (unpack_no _ n _ i _ H0.out H1.out H.out).mono ?_
       rintro e w3 ⟨rfl, rfl⟩)
    | (go_at_call 16
       refine (refunpack_no _ n _ i _ H0.out H1.out H.out).mono ?_
       rintro e w3 ⟨rfl, rfl⟩)
    | (go_at_call 13
       refine (samebits_yes none none 0 0 0 [] _ BRow.nil BRow.nil (by omega)).mono ?_
       rintro e w3 ⟨rfl, d3, rfl⟩)
    | (go_at_call 17
       refine (C1.out _).mono ?_
       rintro e w3 ⟨rfl, rfl⟩)
    | (go_at_call 18
       refine (C2.out _).mono ?_
       rintro e w3 ⟨rfl, rfl⟩)
    | (go_at_call 19
       refine (stays_any A n c w1.heap.size zs _ (HR2.out.drewN d3) (HW2.out.drewN d3) (by omega)).mono ?_
       rintro e w4 ⟨rfl, d4, rfl⟩))
  go_ret
  exact ⟨rfl, below_drewN HB2.out _⟩

set_option maxHeartbeats 1000000 in
theorem walk_yes (A : Option Addr) (n c : Nat) (zs : List Int) (w : World) (hr : Row .u8 w w.heap.size A (nb n) zs) (hx : Bytes8 zs) (hn : nb n ≤ 300) :
    Calls Try.prog 4 #[.slice A (nb n) c, .int .i64 (n : Int)] w fun e w' => e = .returned (.bool true) ∧ Below w.heap.size w w' := by
  have HR := Lib.hid hr
  have HX := Lib.hid hx
  have hn2 : n ≤ 2400 := by unfold nb at hn; omega
  obtain ⟨m, hm⟩ : ∃ m, m = nb n := ⟨_, rfl⟩
  have C1 : Hid (∀ W, Calls Try.prog 17 #[.int .i64 (n : Int)] W fun e w' => e = .returned (.int .i64 ((nb n : Nat) : Int)) ∧ W = w') := fun W => bytes_nat n W (by omega)
  have C2 : Hid (∀ W, Calls Try.prog 18 #[.int .i64 (n : Int)] W fun e w' => e = .returned (.int .i64 ((nb n : Nat) : Int)) ∧ W = w') := fun W => refbytes_nat n W (by omega)
  clear hr hx
  go_enter Try.func4, Try.ntmps4
  go_wp2_with (first
    | (go_at_call 8
       refine (awake_any _).mono ?_
       rintro e w1 ⟨rfl, hb⟩
       have HB1 := Lib.hid hb
       have HR1 := Lib.hid ((HR.out.below hb).more hb.size)
       clear hb)
    | (go_at_call 15
       refine (lent_all A (nb n) c zs _ HR1.out (by omega)).mono ?_
       rintro e w2 ⟨rfl, hr2, hm2, hw2, hb, hz⟩
       have HR2 := Lib.hid hr2
       have HM2 := Lib.hid hm2
       have HW2 := Lib.hid hw2
       have HB2 := Lib.hid (HB1.out.trans (hb.mono HB1.out.size))
       clear hr2 hm2 hw2 hb)
    | (go_at_call 11
       refine (unpack_all _ n _ zs _ HM2.out HX.out (by omega)).mono ?_
       rintro e w3 ⟨rfl, hp, hb⟩
       have HP3 := Lib.hid hp
       have HR3 := Lib.hid ((HR2.out.below hb).more hb.size)
       have HW3 := Lib.hid (HW2.out.below hb hz)
       have HB3 := Lib.hid (HB2.out.trans (hb.mono HB2.out.size))
       clear hp hb)
    | (go_at_call 16
       refine (refunpack_yes _ n _ zs _ HR3.out HX.out (by omega)).mono ?_
       rintro e w4 ⟨B4, c4, rfl, hp, hb⟩
       have HQ4 := Lib.hid hp
       have HP4 := Lib.hid ((HP3.out.below hb).more hb.size)
       have HR4 := Lib.hid ((HR3.out.below hb).more hb.size)
       have HW4 := Lib.hid (HW3.out.below hb HW3.out.lt)
       have HB4 := Lib.hid (HB3.out.trans (hb.mono HB3.out.size))
       clear hp hb)
    | (go_at_call 13
       refine (samebits_yes _ _ n _ _ _ _ HP4.out HQ4.out (by omega)).mono ?_
       rintro e w5 ⟨rfl, d5, rfl⟩)
    | (go_at_call 17
       refine (C1.out _).mono ?_
       rintro e w5 ⟨rfl, rfl⟩)
    | (go_at_call 18
       refine (C2.out _).mono ?_
       rintro e w5 ⟨rfl, rfl⟩)
    | (go_at_call 19
       refine (stays_any A (nb n) c w1.heap.size zs _ (HR4.out.drewN d5) (HW4.out.drewN d5) (by omega)).mono ?_
       rintro e w6 ⟨rfl, d6, rfl⟩))
  go_ret
  exact ⟨rfl, below_drewN HB4.out _⟩

theorem walk (a0 : Option Addr) (len0 cap0 : Nat) (z0 : List Int) (a1 : Int) (w : World) (w0 : IsRow .u8 w a0 len0 cap0 z0) (w1 : (Lit.int .i64 a1).wf = true) :
    Calls Try.prog 4 #[.slice a0 len0 cap0, .int .i64 a1] w fun e w' => e = .returned (.bool true) ∧ Below w.heap.size w w' := by
  have hb := bounds_i64 w1
  rcases Nat.lt_or_ge 300 len0 with h | h
  · exact walk_long a0 len0 cap0 a1 w h
  · by_cases hc : a1 < 0 ∨ nbI a1 ≠ len0
    · exact walk_no a0 len0 cap0 _ a1 w w0.row h (by omega) (by omega) hc
    · obtain ⟨k, rfl⟩ := Int.eq_ofNat_of_zero_le (show 0 ≤ a1 by omega)
      have e : nb k = len0 := by
        have : nbI (k : Int) = len0 := by
          rcases Classical.em (nbI (k : Int) = len0) with h2 | h2
          · exact h2
          · exact absurd (.inr h2) hc
        rw [nbI_nat] at this
        omega
      subst e
      exact walk_yes a0 k cap0 _ w w0.row w0.bytes h

/-! ### THE ROW's STEP: WRITTEN OUT: LEAVE IT -/
set_option maxRecDepth 100000 in
theorem lifted (os : Os) (started : os.Started) (H : Type) (enc : TypeId × Value → H) :
    ReturnsInHanded {} Try.checked os 4 .any (Rows.bitsUnpacksSpec.pre6 enc Try.prog Try.f4 Rows.bitsUnpacksRow.domain false) (Rows.bitsUnpacksSpec.post enc Try.prog Try.f4 false true false false) := by
  refine returnsInHanded_of_change (C := Try.checked) own started (by kernel_rfl) Try.func4
    (ChangeSpec.witness6 (enc := enc) (C := Try.checked) false ⟨#[], #[.slice none 0 0, .int .i64 0], []⟩ 8 (by kernel_rfl) (by kernel_rfl) (by kernel_rfl) (by kernel_rfl)) ?_
  intro W base args ds gs before hval0 hW hcnd _
  have hval : ∀ (j : Nat) t v, Try.f4.params[j]? = some t → args[j]? = some v → Value.okWide Try.prog W .any base t v := hval0
  have hW' := hW
  obtain ⟨p, q, hA0, hV, rfl, hfz, hnd⟩ := hW
  have hA : DataW.TrodAll enc Try.prog W 0 (fun _ => true) true Try.f4.params.toList args.toList ds p := hA0
  rw [Try.params4] at hA hval
  obtain ⟨v0, vs0, d0, ds0, p0, q0, hargs, rfl, rfl, h0, r0⟩ := trodAll_cons hA
  obtain ⟨v1, vs1, d1, ds1, p1, q1, rfl, rfl, rfl, h1, r1⟩ := trodAll_cons r0
  obtain ⟨rfl, rfl, rfl⟩ := trodAll_nil r1
  obtain rfl : args = #[v0, v1] := by cases args; simp_all
  obtain ⟨rfl, rfl⟩ := trodVars_none hV
  obtain ⟨a0, len0, cap0, rfl⟩ := okWide_slice Try.underlying25 (hval 0 25 v0 rfl rfl)
  have k0 := h0
  have lt0 : ∀ x ∈ p0, x.block < W.heap.size := by obtain ⟨m, hm⟩ := k0; exact DataW.trod_lt m _ _ _ hm
  obtain ⟨z0, w0⟩ : ∃ zs, IsRow .u8 W a0 len0 cap0 zs := by
    obtain ⟨fuel, hf⟩ := h0
    rcases open_ints Try.underlying25 Try.underlying5 (by kernel_rfl) hf with ⟨hcs, _⟩ | ⟨x, l, c, zs, hcs, _, hl, hm, hz, _, hcell, hwz⟩
    · simp [Value.cells] at hcs
      obtain ⟨rfl, rfl, rfl⟩ := hcs
      exact ⟨[], .inl ⟨rfl, rfl, rfl, rfl⟩⟩
    · simp [Value.cells] at hcs
      obtain ⟨rfl, rfl, rfl⟩ := hcs
      exact ⟨zs, .inr ⟨_, rfl, hl, hm, by simpa using hz, hcell, hwz⟩⟩
  obtain ⟨a1, rfl, rfl, rfl, w1⟩ := open_int Try.underlying3 (hval 1 3 v1 rfl rfl) h1
  clear hA0 hval0
  refine (walk a0 len0 cap0 z0 a1 W w0 w1).mono fun e W' ⟨he, bel⟩ => ?_
  subst he
  exact ⟨_, rfl, _, _, _, [], _, [], hW', trodAll_mk1 (shut_bool Try.underlying4 _), (trodAll_cons_mk (Below.trod laidOut (by kernel_rfl) (of_decide_eq_true (by kernel_rfl)) k0 bel lt0) (trodAll_cons_mk (shut_int Try.underlying3 w1) trodAll_mk0)), rfl, bel.frame _, fun h => by cases h⟩

theorem over : Rows.bitsUnpacksRow.holds Try.pinned (OpenSpec.ofChange Rows.bitsUnpacksSpec) :=
  OpenClaim.holds_of_wide 4 Try.f4 rfl rfl rfl rfl rfl rfl rfl ⟨rfl, rfl, rfl, rfl, rfl⟩ rfl rfl rfl rfl rfl (by kernel_rfl) Try.func4 (by kernel_rfl)
    (of_decide_eq_true (by kernel_rfl)) (by unfold Func.isWrapper; first | (rw [if_pos (by decide +kernel)]; kernel_rfl) | (rw [if_neg (by decide +kernel)]; exact ⟨rfl, rfl⟩))
    (fun os started H enc _ => lifted os started H enc)

/-- ████ THE STATEMENT ████ -/
theorem proved : Rows.BitsUnpacksSaid := over
#print axioms proved
end Go.Proofs.Ythcehfofifdmbaa.bitsUnpacks

/- Proved: for every slice of numbers and every number, busbarlaw7.IdenAlone returns true, and its arguments read as before. Conditions: none. -/
import Derived.Test.YtiomhabdnajieaaAwake7
namespace Go.Proofs.Ytiomhabdnajieaa.idenAlone
open Go.ChangeShapes Go.WideShapes Go.ChangeAt Go.RowKit
open Go.ChangeMaps (open_string shut_string)
set_option linter.unusedVariables false


theorem first_of (os : List Ob) (ob : Int) : (∀ k, k < os.length → (os.getD k ob0).1 ≠ ob) ∨ ∃ i, i < os.length ∧ (∀ k, k < i → (os.getD k ob0).1 ≠ ob) ∧ (os.getD i ob0).1 = ob := by
  induction os with
  | nil => exact .inl fun k hk => by simp at hk
  | cons o os ih =>
    by_cases ho : o.1 = ob
    · exact .inr ⟨0, by simp, fun k hk => by omega, ho⟩
    · rcases ih with h | ⟨i, hi, h, h2⟩
      · refine .inl fun k hk => ?_
        cases k with
        | zero => exact ho
        | succ k => exact h k (by simpa using hk)
      · refine .inr ⟨i + 1, by simpa using hi, fun k hk => ?_, h2⟩
        cases k with
        | zero => exact ho
        | succ k => exact h k (by omega)

set_option maxRecDepth 100000 in
set_option maxHeartbeats 2000000 in
theorem walk (a0 : Option Addr) (len0 cap0 : Nat) (z0 : List Int) (a1 : Int) (w : World) (w0 : IsRow .i64 w a0 len0 cap0 z0) (w1 : (Lit.int .i64 a1).wf = true) :
    Calls Try.prog 10 #[.slice a0 len0 cap0, .int .i64 a1] w fun e w' => e = .returned (.bool true) ∧ Below w.heap.size w w' := by
  have hle := w0.le
  have hwf := w0.wf
  have hrow := w0.row
  obtain ⟨ha0, ha1⟩ : -9223372036854775808 ≤ a1 ∧ a1 ≤ 9223372036854775807 := bounds_i64 w1
  have HO := Lib.hid (fun W hW => lobjects_any a0 len0 cap0 (z0.take len0) W hW (fun k hk => bounds_i64 (hwf k hk)) (by unfold maxLen at hle; omega))
  have HR := Lib.hid hrow
  have CW := Lib.hid (fun W => within_any a1 256 W ha0 ha1 (by omega) (by omega))
  obtain ⟨ob, hob⟩ : ∃ ob, a1 % 256 = ob := ⟨_, rfl⟩
  have hb0 : 0 ≤ ob := by omega
  have hb1 : ob ≤ 255 := by omega
  rw [hob] at CW
  clear hob hle hwf hrow w0 w1
  go_enter Try.func10, Try.ntmps10
  go_wp2_with (first
    | (go_at_call 35; refine (awake7_any _).mono ?_; rintro e w1 ⟨rfl, hb⟩; have HB1 := Lib.hid hb; clear hb)
    | (go_at_call 38; refine (HO.out _ ((HR.out.below HB1.out).more HB1.out.size)).mono ?_; rintro e w2 ⟨B, m, d, os, rfl, hg, hown, hb⟩; have HG := Lib.hid hg; have HOW := Lib.hid hown; have HB2 := Lib.hid (HB1.out.trans (hb.mono HB1.out.size)); clear hb hg hown)
    | (go_at_call 23; refine (CW.out _).mono ?_; rintro e w' ⟨rfl, rfl⟩))
  have hm : os.length = m := by have := HOW.out.1; rw [obs_length] at this; omega
  subst hm
  have hcap := own2_cap HOW.out
  have h43 := HG.out.l43
  have HL := Lib.hid (ol_of_own HOW.out)
  rcases first_of os ob with h | ⟨i, hi, h, h2⟩
  · have CA := Lib.hid (ianswer_none B os.length d os ob _ HL.out (by omega) hcap ⟨hb0, hb1⟩ h)
    have H := Lib.hid h
    clear h
    go_wp2_with (go_at_call 41; refine CA.out.mono ?_; rintro e w3 ⟨rfl, hb⟩; have HB3 := Lib.hid hb; clear hb)
    have HB4 := Lib.hid (HB3.out.alloc HB3.out.size (.cells #[.int .i64 0, .int .i64 0, .slice none 0 0, .slice none 0 0, .int .i64 0, .int .i64 0, .int .u16 0, .int .u16 0, .int .u16 0, .int .i64 0, .int .i64 0, .bool false, .int .i64 0, .slice none 0 0] 27))
    have HL4 := Lib.hid (HL.out.below HB4.out)
    have HBF := Lib.hid (HB2.out.trans (HB4.out.mono HB2.out.size))
    go_loop [8] (fun i => ∃ k : Nat, k ≤ os.length ∧ i = .int .i64 (k : Int)) (fun i => os.length - (intOf i).toNat)
    case atStart => exact ⟨0, by omega, rfl⟩
    case round =>
      obtain ⟨k, hk, rfl⟩ := hrel
      by_cases hlt : k < os.length
      · obtain ⟨b, off, rfl, hb, hc1, hc2⟩ := HL4.out.at_ k hlt
        have hne := H.out k hlt
        obtain ⟨x, hx⟩ : ∃ x, (os.getD k ob0).1 = x := ⟨_, rfl⟩
        rw [hx] at hc1 hne
        clear hx hc2
        have hne2 : (x == ob) = false := beq_eq_false_iff_ne.2 hne
        have hi : (k : Int) < (os.length : Int) := by omega
        go_wp2
        go_round
        case rel => exact ⟨k + 1, by omega, by go_num⟩
        case measure => simp [intOf]; omega
      · have hi : ¬ (k : Int) < (os.length : Int) := by omega
        have hi2 : decide (k < os.length) = false := decide_eq_false hlt
        go_wp2
        go_ret
        exact ⟨rfl, HBF.out⟩
  · have CA := Lib.hid (ianswer_one B os.length d os ob i _ HL.out (by omega) hcap ⟨hb0, hb1⟩ hi h h2)
    have H := Lib.hid h
    have H2 := Lib.hid h2
    obtain ⟨le, hle⟩ : ∃ le, levelOf os = le := ⟨_, rfl⟩
    obtain ⟨S, hS⟩ : ∃ S, (os.getD i ob0).2 = S := ⟨_, rfl⟩
    have hpair : os.getD i ob0 = (ob, S) := by rw [← h2, ← hS]
    rw [hle, hpair] at CA
    have HPR := Lib.hid hpair
    clear h h2 hle hS hpair
    go_wp2_with (go_at_call 41; refine CA.out.mono ?_; rintro e w3 ⟨B2, rfl, hown2, hb⟩; have HB3 := Lib.hid hb; have HO2 := Lib.hid hown2; clear hb hown2)
    obtain ⟨w4, hw4⟩ : ∃ w4, w3.alloc (.cells #[.int .i64 43, .int .i64 0, .slice none 0 0, .slice none 0 0, .int .i64 0, .int .i64 0, .int .u16 0, .int .u16 0, .int .u16 0, .int .i64 4, .int .i64 le, .bool false, .int .i64 0, .slice B2 1 1] 27) = w4 := ⟨_, rfl⟩
    have hbx : WholeV w4 w3.heap.size 27 [.int .i64 43, .int .i64 0, .slice none 0 0, .slice none 0 0, .int .i64 0, .int .i64 0, .int .u16 0, .int .u16 0, .int .u16 0, .int .i64 4, .int .i64 le, .bool false, .int .i64 0, .slice B2 1 1] := by rw [← hw4]; exact heap_alloc_new w3 _
    have hal : Below w3.heap.size w3 w4 := by rw [← hw4]; exact (Below.refl _ _).alloc (Nat.le_refl _) _
    rw [hw4]
    clear hw4
    have HB4 := Lib.hid (HB3.out.trans (hal.mono HB3.out.size))
    have HL4 := Lib.hid (HL.out.below HB4.out)
    have HBF := Lib.hid (HB2.out.trans (HB4.out.mono HB2.out.size))
    obtain ⟨hq0, hq1, hq2, hq3, hq4, hq5, hq6, hq7, hq8, hq9, hq10, hq11, hq12, hq13⟩ := cells14 hbx
    have hz4 := hbx.lt
    obtain ⟨b2, off2, rfl, hb2, hd1, hd2⟩ := (ol_of_own (own2_keep HO2.out hal)).at_ 0 (by omega)
    have hd3 : w4.cell? ⟨b2, off2, none⟩ = some (.int .i64 ob) := by simpa using hd1
    have hd4 : w4.cell? ⟨b2, off2 + 1, none⟩ = some (.string S) := by simpa using hd2
    clear hd1 hd2 hq0 hq1 hq2 hq3 hq4 hq5 hq6 hq7 hq8 hq10 hbx hal
    go_loop [8] (fun j => ∃ k : Nat, k ≤ i ∧ j = .int .i64 (k : Int)) (fun j => os.length - (intOf j).toNat)
    case atStart => exact ⟨0, by omega, rfl⟩
    case round =>
      obtain ⟨k, hk, rfl⟩ := hrel
      have hlt : k < os.length := by omega
      have hi2 : (k : Int) < (os.length : Int) := by omega
      obtain ⟨b, off, rfl, hb, hc1, hc2⟩ := HL4.out.at_ k hlt
      by_cases hki : k < i
      · have hne := H.out k hki
        obtain ⟨x, hx⟩ : ∃ x, (os.getD k ob0).1 = x := ⟨_, rfl⟩
        rw [hx] at hc1 hne
        clear hx hc2
        have hne2 : (x == ob) = false := beq_eq_false_iff_ne.2 hne
        go_wp2
        go_round
        case rel => exact ⟨k + 1, by omega, by go_num⟩
        case measure => simp [intOf]; omega
      · obtain rfl : i = k := by omega
        rw [HPR.out] at hc1 hc2
        have hee : (ob == ob) = true := by simp
        go_wp2
        go_quiet (fail)
        go_wp2
        go_ret
        exact ⟨rfl, below_drewN HBF.out _⟩

/-! ### THE ROW's STEP: WRITTEN OUT: LEAVE IT -/
set_option maxRecDepth 100000 in
theorem lifted (os : Os) (started : os.Started) (H : Type) (enc : TypeId × Value → H) :
    ReturnsInHanded {} Try.checked os 10 .any (Rows.idenAloneSpec.pre6 enc Try.prog Try.f10 Rows.idenAloneRow.domain false) (Rows.idenAloneSpec.post enc Try.prog Try.f10 false true false false) := by
  refine returnsInHanded_of_change (C := Try.checked) own started (by kernel_rfl) Try.func10
    (ChangeSpec.witness6 (enc := enc) (C := Try.checked) false ⟨#[], #[.slice none 0 0, .int .i64 0], []⟩ 8 (by kernel_rfl) (by kernel_rfl) (by kernel_rfl) (by kernel_rfl)) ?_
  intro W base args ds gs before hval0 hW hcnd _
  have hval : ∀ (j : Nat) t v, Try.f10.params[j]? = some t → args[j]? = some v → Value.okWide Try.prog W .any base t v := hval0
  have hW' := hW
  obtain ⟨p, q, hA0, hV, rfl, hfz, hnd⟩ := hW
  have hA : DataW.TrodAll enc Try.prog W 0 (fun _ => true) true Try.f10.params.toList args.toList ds p := hA0
  rw [Try.params10] at hA hval
  obtain ⟨v0, vs0, d0, ds0, p0, q0, hargs, rfl, rfl, h0, r0⟩ := trodAll_cons hA
  obtain ⟨v1, vs1, d1, ds1, p1, q1, rfl, rfl, rfl, h1, r1⟩ := trodAll_cons r0
  obtain ⟨rfl, rfl, rfl⟩ := trodAll_nil r1
  obtain rfl : args = #[v0, v1] := by cases args; simp_all
  obtain ⟨rfl, rfl⟩ := trodVars_none hV
  obtain ⟨a0, len0, cap0, rfl⟩ := okWide_slice Try.underlying49 (hval 0 49 v0 rfl rfl)
  have k0 := h0
  have lt0 : ∀ x ∈ p0, x.block < W.heap.size := by obtain ⟨m, hm⟩ := k0; exact DataW.trod_lt m _ _ _ hm
  obtain ⟨z0, w0⟩ : ∃ zs, IsRow .i64 W a0 len0 cap0 zs := by
    obtain ⟨fuel, hf⟩ := h0
    rcases open_ints Try.underlying49 Try.underlying3 (by kernel_rfl) hf with ⟨hcs, _⟩ | ⟨x, l, c, zs, hcs, _, hl, hm, hz, _, hcell, hwz⟩
    · simp [Value.cells] at hcs
      obtain ⟨rfl, rfl, rfl⟩ := hcs
      exact ⟨[], .inl ⟨rfl, rfl, rfl, rfl⟩⟩
    · simp [Value.cells] at hcs
      obtain ⟨rfl, rfl, rfl⟩ := hcs
      exact ⟨zs, .inr ⟨_, rfl, hl, hm, by simpa using hz, hcell, hwz⟩⟩
  obtain ⟨a1, rfl, rfl, rfl, w1⟩ := open_int Try.underlying3 (hval 1 3 v1 rfl rfl) h1
  clear hA0 hval0
  refine (walk a0 len0 cap0 z0 a1 W w0 w1).mono fun e W' ⟨he, bel⟩ => ?_
  subst he
  exact ⟨_, rfl, _, _, _, [], _, [], hW', trodAll_mk1 (shut_bool Try.underlying4 _), (trodAll_cons_mk (Below.trod laidOut (by kernel_rfl) (of_decide_eq_true (by kernel_rfl)) k0 bel lt0) (trodAll_cons_mk (shut_int Try.underlying3 w1) trodAll_mk0)), rfl, bel.frame _, fun h => by cases h⟩

theorem over : Rows.idenAloneRow.holds Try.pinned (OpenSpec.ofChange Rows.idenAloneSpec) :=
  OpenClaim.holds_of_wide 10 Try.f10 rfl rfl rfl rfl rfl rfl rfl ⟨rfl, rfl, rfl, rfl, rfl⟩ rfl rfl rfl rfl rfl (by kernel_rfl) Try.func10 (by kernel_rfl)
    (of_decide_eq_true (by kernel_rfl)) (by unfold Func.isWrapper; first | (rw [if_pos (by decide +kernel)]; kernel_rfl) | (rw [if_neg (by decide +kernel)]; exact ⟨rfl, rfl⟩))
    (fun os started H enc _ => lifted os started H enc)

/-- ████ THE STATEMENT ████ -/
theorem proved : Rows.IdenAloneSaid := over
#print axioms proved
end Go.Proofs.Ytiomhabdnajieaa.idenAlone

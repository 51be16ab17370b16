/- Proved: for every slice of bytes and every int, busbarlaw8.AduFronts returns true, and its argument reads as before. Conditions: none. -/
import Derived.Test.YtoljpdamalcjeaaAwake8
import Derived.Test.YtoljpdamalcjeaaWithin
namespace Go.Proofs.Ytoljpdamalcjeaa.aduFronts
open Go.ChangeShapes Go.WideShapes Go.ChangeAt Go.RowKit
open Go.ChangeMaps (open_string shut_string)
set_option linter.unusedVariables false


theorem walk_not (a0 : Option Addr) (len0 cap0 : Nat) (a1 : Int) (w : World) (h : len0 < 1 ∨ 253 < len0) :
    Calls Try.prog 6 #[.slice a0 len0 cap0, .int .i64 a1] w fun e w' => e = .returned (.bool true) ∧ Below w.heap.size w w' := by
  rcases h with h | h
  · have h1 : (len0 : Int) < 1 := by omega
    clear h
    go_enter Try.func6, Try.ntmps6
    go_wp2_with (go_at_call 12; refine (awake_any _).mono ?_; rintro e w1 ⟨rfl, hb⟩; have HB := Lib.hid hb; clear hb)
    go_ret
    exact ⟨rfl, HB.out⟩
  · have h1 : ¬ (len0 : Int) < 1 := by omega
    have h2 : (253 : Int) < (len0 : Int) := by omega
    clear h
    go_enter Try.func6, Try.ntmps6
    go_wp2_with (go_at_call 12; refine (awake_any _).mono ?_; rintro e w1 ⟨rfl, hb⟩; have HB := Lib.hid hb; clear hb)
    go_ret
    exact ⟨rfl, HB.out⟩

set_option maxRecDepth 100000 in
set_option maxHeartbeats 1000000 in
theorem walk_in (A : Option Addr) (n c : Nat) (zs : List Int) (a1 u : Int) (w : World) (hr : Row .u8 w w.heap.size A n zs) (hx : Bytes8 zs) (p0 : -9223372036854775808 ≤ a1) (p1 : a1 ≤ 9223372036854775807) (hu : a1 % 256 = u) (h1 : 1 ≤ n) (h2 : n ≤ 253) :
    Calls Try.prog 6 #[.slice A n c, .int .i64 a1] w fun e w' => e = .returned (.bool true) ∧ Below w.heap.size w w' := by
  have hi1 : ¬ (n : Int) < 1 := by omega
  have hi2 : ¬ (253 : Int) < (n : Int) := by omega
  have hf : hFits 0 (1 + n) u := by unfold hFits; omega
  have HF := Lib.hid hf
  have CW := Lib.hid (fun W => within_any a1 256 W p0 p1 (by omega) (by omega))
  rw [hu] at CW
  have CB := Lib.hid (fun W (hb : Below w.heap.size w W) => abytes_yes A n c zs 0 u W ((hr.below hb).more hb.size) hf)
  have HX := Lib.hid hx
  have HN := Lib.hid hr.1
  clear hr hx hf hu p0 p1
  go_enter Try.func6, Try.ntmps6
  go_wp2_with (first
    | (go_at_call 12; refine (awake_any _).mono ?_; rintro e w1 ⟨rfl, hb⟩; have HB1 := Lib.hid hb; clear hb)
    | (go_at_call 13; refine (CW.out _).mono ?_; rintro e w' ⟨rfl, rfl⟩)
    | (go_at_call 15
       refine (CB.out _ HB1.out).mono ?_
       rintro e w2 ⟨g2, rfl, hg2, hw2, hb2⟩
       have HW2 := Lib.hid hw2
       have HB2 := Lib.hid (HB1.out.trans (hb2.mono HB1.out.size))
       clear hw2 hb2 hg2))
  go_loopw [7] (fun i wr => ∃ k : Nat, k ≤ 7 + n ∧ i = .int .i64 (k : Int) ∧ Hid (Below w2.heap.size w2 wr)) (fun i _ => 7 + n - (intOf i).toNat)
  case atStart => exact ⟨0, by omega, rfl, Below.refl _ _⟩
  case round =>
    obtain ⟨k, hk, rfl, HK⟩ := hrel
    by_cases hlt : k < 7 + n
    · have hi : (k : Int) < 7 + (n : Int) := by omega
      have hcp : (k : Int) ≤ 7 + (n : Int) := by omega
      have hrow : Row .u8 wr wr.heap.size (some ⟨g2, 0, none⟩) k ((headOf 0 (1 + n) u ++ zs).take k) := by
        have h := (HW2.out.row.below HK.out).more HK.out.size
        have e7 : (headOf 0 (1 + n) u ++ zs).length = k + (7 + n - k) := by rw [List.length_append, HN.out]; show 7 + n = _; omega
        rw [e7, ← List.take_append_drop k (headOf 0 (1 + n) u ++ zs)] at h
        exact h.front (by rw [List.length_take, e7]; omega)
      have C3 := Lib.hid (acut_front 0 u zs n k (7 + n) (some ⟨g2, 0, none⟩) wr HN.out HX.out HF.out hlt hrow)
      clear hrow
      go_wp2_with (go_at_call 18; refine C3.out.mono ?_; rintro e w3 ⟨rfl, hb3⟩; have HB3 := Lib.hid hb3; clear hb3)
      go_roundw
      case rel => exact ⟨k + 1, by omega, by go_num, (HK.out.trans (HB3.out.mono HK.out.size)).alloc (HK.out.trans (HB3.out.mono HK.out.size)).size _⟩
      case measure => simp [intOf]; omega
    · obtain rfl : k = 7 + n := by omega
      have hge : ¬ (((7 + n : Nat) : Int)) < 7 + (n : Int) := by omega
      go_wp2
      go_ret
      exact ⟨rfl, HB2.out.trans (HK.out.mono HB2.out.size)⟩

theorem walk (a0 : Option Addr) (len0 cap0 : Nat) (z0 : List Int) (a1 : Int) (w : World) (w0 : IsRow .u8 w a0 len0 cap0 z0) (w1 : (Lit.int .i64 a1).wf = true) :
    Calls Try.prog 6 #[.slice a0 len0 cap0, .int .i64 a1] w fun e w' => e = .returned (.bool true) ∧ Below w.heap.size w w' := by
  have h1 := bounds_i64 w1
  by_cases h : len0 < 1 ∨ 253 < len0
  · exact walk_not a0 len0 cap0 a1 w h
  · exact walk_in a0 len0 cap0 _ a1 _ w w0.row w0.bytes h1.1 (by omega) rfl (by omega) (by omega)

/-! ### THE ROW's STEP: WRITTEN OUT: LEAVE IT -/
set_option maxRecDepth 100000 in
theorem lifted (os : Os) (started : os.Started) (H : Type) (enc : TypeId × Value → H) :
    ReturnsInHanded {} Try.checked os 6 .any (Rows.aduFrontsSpec.pre6 enc Try.prog Try.f6 Rows.aduFrontsRow.domain false) (Rows.aduFrontsSpec.post enc Try.prog Try.f6 false true false false) := by
  refine returnsInHanded_of_change (C := Try.checked) own started (by kernel_rfl) Try.func6
    (ChangeSpec.witness6 (enc := enc) (C := Try.checked) false ⟨#[], #[.slice none 0 0, .int .i64 0], []⟩ 8 (by kernel_rfl) (by kernel_rfl) (by kernel_rfl) (by kernel_rfl)) ?_
  intro W base args ds gs before hval0 hW hcnd _
  have hval : ∀ (j : Nat) t v, Try.f6.params[j]? = some t → args[j]? = some v → Value.okWide Try.prog W .any base t v := hval0
  have hW' := hW
  obtain ⟨p, q, hA0, hV, rfl, hfz, hnd⟩ := hW
  have hA : DataW.TrodAll enc Try.prog W 0 (fun _ => true) true Try.f6.params.toList args.toList ds p := hA0
  rw [Try.params6] at hA hval
  obtain ⟨v0, vs0, d0, ds0, p0, q0, hargs, rfl, rfl, h0, r0⟩ := trodAll_cons hA
  obtain ⟨v1, vs1, d1, ds1, p1, q1, rfl, rfl, rfl, h1, r1⟩ := trodAll_cons r0
  obtain ⟨rfl, rfl, rfl⟩ := trodAll_nil r1
  obtain rfl : args = #[v0, v1] := by cases args; simp_all
  obtain ⟨rfl, rfl⟩ := trodVars_none hV
  obtain ⟨a0, len0, cap0, rfl⟩ := okWide_slice Try.underlying22 (hval 0 22 v0 rfl rfl)
  have k0 := h0
  have lt0 : ∀ x ∈ p0, x.block < W.heap.size := by obtain ⟨m, hm⟩ := k0; exact DataW.trod_lt m _ _ _ hm
  obtain ⟨z0, w0⟩ : ∃ zs, IsRow .u8 W a0 len0 cap0 zs := by
    obtain ⟨fuel, hf⟩ := h0
    rcases open_ints Try.underlying22 Try.underlying5 (by kernel_rfl) hf with ⟨hcs, _⟩ | ⟨x, l, c, zs, hcs, _, hl, hm, hz, _, hcell, hwz⟩
    · simp [Value.cells] at hcs
      obtain ⟨rfl, rfl, rfl⟩ := hcs
      exact ⟨[], .inl ⟨rfl, rfl, rfl, rfl⟩⟩
    · simp [Value.cells] at hcs
      obtain ⟨rfl, rfl, rfl⟩ := hcs
      exact ⟨zs, .inr ⟨_, rfl, hl, hm, by simpa using hz, hcell, hwz⟩⟩
  obtain ⟨a1, rfl, rfl, rfl, w1⟩ := open_int Try.underlying3 (hval 1 3 v1 rfl rfl) h1
  clear hA0 hval0
  refine (walk a0 len0 cap0 z0 a1 W w0 w1).mono fun e W' ⟨he, bel⟩ => ?_
  subst he
  exact ⟨_, rfl, _, _, _, [], _, [], hW', trodAll_mk1 (shut_bool Try.underlying4 _), (trodAll_cons_mk (Below.trod laidOut (by kernel_rfl) (of_decide_eq_true (by kernel_rfl)) k0 bel lt0) (trodAll_cons_mk (shut_int Try.underlying3 w1) trodAll_mk0)), rfl, bel.frame _, fun h => by cases h⟩

theorem over : Rows.aduFrontsRow.holds Try.pinned (OpenSpec.ofChange Rows.aduFrontsSpec) :=
  OpenClaim.holds_of_wide 6 Try.f6 rfl rfl rfl rfl rfl rfl rfl ⟨rfl, rfl, rfl, rfl, rfl⟩ rfl rfl rfl rfl rfl (by kernel_rfl) Try.func6 (by kernel_rfl)
    (of_decide_eq_true (by kernel_rfl)) (by unfold Func.isWrapper; first | (rw [if_pos (by decide +kernel)]; kernel_rfl) | (rw [if_neg (by decide +kernel)]; exact ⟨rfl, rfl⟩))
    (fun os started H enc _ => lifted os started H enc)

/-- ████ THE STATEMENT ████ -/
theorem proved : Rows.AduFrontsSaid := over
#print axioms proved
end Go.Proofs.Ytoljpdamalcjeaa.aduFronts

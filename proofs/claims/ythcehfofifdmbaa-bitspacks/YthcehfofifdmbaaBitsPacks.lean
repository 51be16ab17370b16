/- Proved: for every slice of bools, busbarlaw2.BitsPacks returns true, and its argument reads as before. Conditions: none. -/
import Derived.Test.YthcehfofifdmbaaAwake2
namespace Go.Proofs.Ythcehfofifdmbaa.bitsPacks
open Go.ChangeShapes Go.WideShapes Go.ChangeAt Go.RowKit
open Go.ChangeMaps (open_string shut_string)
set_option linter.unusedVariables false


theorem walk_long (a0 : Option Addr) (len0 cap0 : Nat) (w : World) (hlen : 200 < len0) :
    Calls Try.prog 3 #[.slice a0 len0 cap0] w fun e w' => e = .returned (.bool true) ∧ Below w.heap.size w w' := by
  go_enter Try.func3, Try.ntmps3
  go_wp2_with (go_at_call 8; refine (awake_any _).mono ?_; rintro e w1 ⟨rfl, hb⟩; have HB := Lib.hid hb; clear hb)
  go_ret
  exact ⟨rfl, HB.out⟩

set_option maxHeartbeats 1000000 in
theorem walk_short (A : Option Addr) (n c : Nat) (bs : List Bool) (w : World) (hr : BRow w w.heap.size A n bs) (hn : n ≤ 200) :
    Calls Try.prog 3 #[.slice A n c] w fun e w' => e = .returned (.bool true) ∧ Below w.heap.size w w' := by
  have HR := Lib.hid hr
  have HN := Lib.hid hr.1
  have HU : Hid (unb (pk bs n) n = bs) := by have := unb_pk bs; rwa [hr.1] at this
  clear hr
  go_enter Try.func3, Try.ntmps3
  go_wp2_with (first
    | (go_at_call 8
       refine (awake_any _).mono ?_
       rintro e w1 ⟨rfl, hb⟩
       have HB1 := Lib.hid hb
       have HR1 := Lib.hid ((HR.out.below hb).more hb.size)
       clear hb)
    | (go_at_call 9
       refine (lentbits_all A n c bs _ HR1.out (by omega)).mono ?_
       rintro e w2 ⟨rfl, hr2, hm2, hw2, hb, hz⟩
       have HR2 := Lib.hid hr2
       have HM2 := Lib.hid hm2
       have HW2 := Lib.hid hw2
       have HB2 := Lib.hid (HB1.out.trans (hb.mono HB1.out.size))
       clear hr2 hm2 hw2 hb)
    | (go_at_call 10
       refine (pack_all _ n (n + 3) bs _ HM2.out (by omega)).mono ?_
       rintro e w3 ⟨rfl, hp, hb⟩
       have HP3 := Lib.hid hp
       have HR3 := Lib.hid ((HR2.out.below hb).more hb.size)
       have HW3 := Lib.hid (HW2.out.below hb hz)
       have HB3 := Lib.hid (HB2.out.trans (hb.mono HB2.out.size))
       clear hp hb)
    | (go_at_call 11
       refine (unpack_all _ n (nb n) (pk bs n) _ HP3.out (pk_bytes _ _) (by omega)).mono ?_
       rintro e w4 ⟨rfl, hp, hb⟩
       have HU4 : Hid (BRow w4 w4.heap.size (some ⟨w3.heap.size, 0, none⟩) n bs) := by rw [HU.out] at hp; exact hp
       have HP4 := Lib.hid ((HP3.out.below hb).more hb.size)
       have HR4 := Lib.hid ((HR3.out.below hb).more hb.size)
       have HW4 := Lib.hid (HW3.out.below hb HW3.out.lt)
       have HB4 := Lib.hid (HB3.out.trans (hb.mono HB3.out.size))
       clear hp hb))
  have KS : Hid (∀ W, Below w4.heap.size w4 W → (convert 25 9 (.slice (some ⟨w2.heap.size, 0, none⟩) (nb n) (nb n))).run Try.prog W = .ok (.string (strOfNums (pk bs n))) W ∧ Below w4.heap.size w4 W) :=
    fun W h => ⟨conv_row _ _ _ _ _ ((HP4.out.below h).more h.size), h⟩
  go_region_held (fun W => (convert 25 9 (.slice (some ⟨w2.heap.size, 0, none⟩) (nb n) (nb n))).run Try.prog W = .ok (.string (strOfNums (pk bs n))) W ∧ Below w4.heap.size w4 W)
    (first | exact KS.out _ (Below.refl _ _).drew | exact KS.out _ hb5 | exact KS.out _ (below_drewN hb5 _))
    (first
      | (go_at_call 12
         refine (refpack_kept A n c bs w4 _ HR4.out (by omega) ?_).mono ?_
         · first | assumption | (exact (Below.refl _ _).drew)
         rintro e w5 ⟨g5, rfl, hc5, hb5⟩)
      | (go_at_call 13
         refine (samebits_kept _ A n _ c bs w4 _ HU4.out HR4.out (by omega) ?_).mono ?_
         · first | assumption | exact hb5
         rintro e w6 ⟨rfl, d6, rfl⟩)
      | (go_at_call 14
         refine (staysbits_kept A n c w1.heap.size bs w4 _ HR4.out HW4.out (by omega) ?_).mono ?_
         · first | assumption | exact hb5 | exact below_drewN hb5 _
         rintro e w7 ⟨rfl, d7, rfl⟩))
  go_wp2
  go_ret
  exact ⟨rfl, below_drewN (HB4.out.trans (hb5.mono HB4.out.size)) _⟩

theorem walk (a0 : Option Addr) (len0 cap0 : Nat) (z0 : List Bool) (w : World) (w0 : IsBools w a0 len0 cap0 z0) :
    Calls Try.prog 3 #[.slice a0 len0 cap0] w fun e w' => e = .returned (.bool true) ∧ Below w.heap.size w w' := by
  rcases Nat.lt_or_ge 200 len0 with h | h
  · exact walk_long a0 len0 cap0 w h
  · exact walk_short a0 len0 cap0 _ w w0.row h

/-! ### THE ROW's STEP: WRITTEN OUT: LEAVE IT -/
set_option maxRecDepth 100000 in
theorem lifted (os : Os) (started : os.Started) (H : Type) (enc : TypeId × Value → H) :
    ReturnsInHanded {} Try.checked os 3 .any (Rows.bitsPacksSpec.pre6 enc Try.prog Try.f3 Rows.bitsPacksRow.domain false) (Rows.bitsPacksSpec.post enc Try.prog Try.f3 false true false false) := by
  refine returnsInHanded_of_change (C := Try.checked) own started (by kernel_rfl) Try.func3
    (ChangeSpec.witness6 (enc := enc) (C := Try.checked) false ⟨#[], #[.slice none 0 0], []⟩ 8 (by kernel_rfl) (by kernel_rfl) (by kernel_rfl) (by kernel_rfl)) ?_
  intro W base args ds gs before hval0 hW hcnd _
  have hval : ∀ (j : Nat) t v, Try.f3.params[j]? = some t → args[j]? = some v → Value.okWide Try.prog W .any base t v := hval0
  have hW' := hW
  obtain ⟨p, q, hA0, hV, rfl, hfz, hnd⟩ := hW
  have hA : DataW.TrodAll enc Try.prog W 0 (fun _ => true) true Try.f3.params.toList args.toList ds p := hA0
  rw [Try.params3] at hA hval
  obtain ⟨v0, vs0, d0, ds0, p0, q0, hargs, rfl, rfl, h0, r0⟩ := trodAll_cons hA
  obtain ⟨rfl, rfl, rfl⟩ := trodAll_nil r0
  obtain rfl : args = #[v0] := by cases args; simp_all
  obtain ⟨rfl, rfl⟩ := trodVars_none hV
  obtain ⟨a0, len0, cap0, rfl⟩ := okWide_slice Try.underlying22 (hval 0 22 v0 rfl rfl)
  have k0 := h0
  have lt0 : ∀ x ∈ p0, x.block < W.heap.size := by obtain ⟨m, hm⟩ := k0; exact DataW.trod_lt m _ _ _ hm
  obtain ⟨z0, w0⟩ : ∃ bs, IsBools W a0 len0 cap0 bs := by
    obtain ⟨fuel, hf⟩ := h0
    rcases Go.Deep.open_bools Try.underlying22 Try.underlying4 (by kernel_rfl) hf with ⟨hcs, _⟩ | ⟨x, l, c, B, hcs, _, hl, hm, _, hcell⟩
    · simp [Value.cells] at hcs
      obtain ⟨rfl, rfl, rfl⟩ := hcs
      exact ⟨[], .inl ⟨rfl, rfl, rfl, rfl⟩⟩
    · simp [Value.cells] at hcs
      obtain ⟨rfl, rfl, rfl⟩ := hcs
      exact isBools_mk B hl hm hcell
  clear hA0 hval0
  refine (walk a0 len0 cap0 z0 W w0).mono fun e W' ⟨he, bel⟩ => ?_
  subst he
  exact ⟨_, rfl, _, _, _, [], _, [], hW', trodAll_mk1 (shut_bool Try.underlying4 _), (trodAll_cons_mk (Below.trod laidOut (by kernel_rfl) (of_decide_eq_true (by kernel_rfl)) k0 bel lt0) trodAll_mk0), rfl, bel.frame _, fun h => by cases h⟩

theorem over : Rows.bitsPacksRow.holds Try.pinned (OpenSpec.ofChange Rows.bitsPacksSpec) :=
  OpenClaim.holds_of_wide 3 Try.f3 rfl rfl rfl rfl rfl rfl rfl ⟨rfl, rfl, rfl, rfl, rfl⟩ rfl rfl rfl rfl rfl (by kernel_rfl) Try.func3 (by kernel_rfl)
    (of_decide_eq_true (by kernel_rfl)) (by unfold Func.isWrapper; first | (rw [if_pos (by decide +kernel)]; kernel_rfl) | (rw [if_neg (by decide +kernel)]; exact ⟨rfl, rfl⟩))
    (fun os started H enc _ => lifted os started H enc)

/-- ████ THE STATEMENT ████ -/
theorem proved : Rows.BitsPacksSaid := over
#print axioms proved
end Go.Proofs.Ythcehfofifdmbaa.bitsPacks

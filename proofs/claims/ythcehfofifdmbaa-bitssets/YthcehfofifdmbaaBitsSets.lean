/- Proved: for all bytes, places and bools, busbarlaw2.BitsSets returns true, and its argument reads as before. Conditions: none. -/
import Derived.Test.YthcehfofifdmbaaSets
namespace Go.Proofs.Ythcehfofifdmbaa.bitsSets
open Go.ChangeShapes Go.WideShapes Go.ChangeAt Go.RowKit
open Go.ChangeMaps (open_string shut_string)
set_option linter.unusedVariables false


theorem walk_long (a0 : Option Addr) (len0 cap0 : Nat) (i : Int) (p v : Bool) (k : Int) (w : World) (hlen : 100 < len0) :
    Calls Try.prog 5 #[.slice a0 len0 cap0, .int .i64 i, .bool p, .bool v, .int .i64 k] w fun e w' => e = .returned (.bool true) ∧ Below w.heap.size w w' := by
  go_enter Try.func5, Try.ntmps5
  go_wp2_with (go_at_call 8; refine (awake_any _).mono ?_; rintro e w1 ⟨rfl, hb⟩; have HB := Lib.hid hb; clear hb)
  go_ret
  exact ⟨rfl, HB.out⟩

set_option maxHeartbeats 2000000 in
theorem walk_near (A : Option Addr) (n c : Nat) (zs : List Int) (i x : Int) (v : Bool) (k : Int) (j : Nat) (w : World) (hr : Row .u8 w w.heap.size A n zs) (hx : Bytes8 zs) (hn : n ≤ 100) (h0 : -9223372036854775808 ≤ x) (h1 : x ≤ 9223372036854775807)
    (hi : Hid (∀ W, Calls Try.prog 20 #[.int .i64 i, .int .i64 (8 * (n : Int) + 2)] W fun e w' => e = .returned (.int .i64 x) ∧ W = w')) (hj : Hid (∀ W, Calls Try.prog 20 #[.int .i64 k, .int .i64 (8 * (n : Int) + 2)] W fun e w' => e = .returned (.int .i64 (j : Int)) ∧ W = w')) (hj1 : (j : Int) ≤ 10000) :
    Calls Try.prog 5 #[.slice A n c, .int .i64 i, .bool true, .bool v, .int .i64 k] w fun e w' => e = .returned (.bool true) ∧ Below w.heap.size w w' := by
  have HR := Lib.hid hr
  have HX := Lib.hid hx
  have H0 := Lib.hid h0
  have H1 := Lib.hid h1
  have HS := Lib.hid (fun v => bitI_setI hx hr.1 x v j)
  have HJ0 : Hid (-9223372036854775808 ≤ (j : Int)) := Lib.hid (by omega)
  have HJ1 : Hid ((j : Int) ≤ 9223372036854775807) := Lib.hid (by omega)
  have HN5 : Hid (n ≤ 100000) := Lib.hid (by omega)
  clear hr hx h0 h1 hj1
  go_enter Try.func5, Try.ntmps5
  go_wp2_with (first
    | (go_at_call 8
       refine (awake_any _).mono ?_
       rintro e w1 ⟨rfl, hb⟩
       have HB1 := Lib.hid hb
       have HR1 := Lib.hid ((HR.out.below hb).more hb.size)
       clear hb)
    | (go_at_call 20
       refine (hi.out _).mono ?_
       rintro e w1b ⟨rfl, rfl⟩)
    | (go_at_call 15
       refine (lent_all A n c zs _ HR1.out (by omega)).mono ?_
       rintro e w2 ⟨rfl, hr2, hm2, hw2, hb, hz⟩
       have HR2 := Lib.hid hr2
       have HM2 := Lib.hid hm2
       have HW2 := Lib.hid hw2
       have HB2 := Lib.hid (HB1.out.trans (hb.mono HB1.out.size))
       clear hr2 hm2 hw2 hb)
    | (go_at_call 21
       refine (set_all _ n _ zs x v _ HM2.out HX.out H0.out H1.out (by omega)).mono ?_
       rintro e w3 ⟨rfl, hp, hb⟩
       have HP3 := Lib.hid hp
       have HR3 := Lib.hid ((HR2.out.below hb).more hb.size)
       have HW3 := Lib.hid (HW2.out.below hb hz)
       have HB3 := Lib.hid (HB2.out.trans (hb.mono HB2.out.size))
       clear hp hb))
  have KS : Hid (∀ W, Below w3.heap.size w3 W → (convert 25 9 (.slice (some ⟨w2.heap.size, 0, none⟩) n n)).run Try.prog W = .ok (.string (strOfNums (setI zs n x v))) W ∧ Below w3.heap.size w3 W) :=
    fun W h => ⟨conv_row _ _ _ _ _ ((HP3.out.below h).more h.size), h⟩
  go_region_held (fun W => (convert 25 9 (.slice (some ⟨w2.heap.size, 0, none⟩) n n)).run Try.prog W = .ok (.string (strOfNums (setI zs n x v))) W ∧ Below w3.heap.size w3 W)
    (first | exact KS.out _ (Below.refl _ _).drew | exact KS.out _ hb4 | exact KS.out _ (below_drewN hb4 _))
    (first
      | (go_at_call 22
         refine (refset_kept A n c zs x v w3 _ HR3.out HX.out H0.out H1.out (by omega) ?_).mono ?_
         · first | assumption | (exact (Below.refl _ _).drew)
         rintro e w4 ⟨B4, c4, rfl, hc4, hb4⟩)
      | (go_at_call 19
         refine (stays_kept A n c w1.heap.size zs w3 _ HR3.out HW3.out (by omega) ?_).mono ?_
         · first | assumption | exact hb4
         rintro e w5 ⟨rfl, d5, rfl⟩)
      | (go_at_call 23
         refine (get_kept A n c zs x w3 _ HR3.out HX.out H0.out H1.out (by omega) ?_).mono ?_
         · first | assumption | exact hb4 | exact below_drewN hb4 _
         rintro e w6 ⟨rfl, d6, rfl⟩)
      | (go_at_call 24
         refine (bit_kept A n c zs x w3 _ HR3.out HX.out H0.out H1.out (by omega) ?_).mono ?_
         · first | assumption | exact hb4 | exact below_drewN hb4 _
         rintro e w7 ⟨rfl, d7, rfl⟩))
  by_cases hjx : (j : Int) = x
  · subst hjx
    rcases v with _ | _
    · have HV : Hid (bitI (setI zs n (j : Int) false) (j : Int) = false) := Lib.hid (by rw [HS.out false, if_pos rfl]; rfl)
      go_wp2_with (first
        | (go_at_call 20; refine (hj.out _).mono ?_; rintro e w8 ⟨rfl, rfl⟩)
        | (go_at_call 23
           with_reducible refine (get_kept (some ⟨w2.heap.size, 0, none⟩) n n (setI zs n (j : Int) false) (j : Int) w3 _ HP3.out (setI_bytes HX.out _ _ _) HJ0.out HJ1.out HN5.out (below_drewN hb4 _)).mono ?_
           rintro e w9 ⟨rfl, d9, rfl⟩
           rw [HV.out]))
      go_ret
      exact ⟨rfl, below_drewN (HB3.out.trans (hb4.mono HB3.out.size)) _⟩
    · have HV : Hid (bitI (setI zs n (j : Int) true) (j : Int) = decide ((j : Int) < 8 * (n : Int))) := Lib.hid (by rw [HS.out true, if_pos rfl]; rfl)
      go_wp2_with (first
        | (go_at_call 20; refine (hj.out _).mono ?_; rintro e w8 ⟨rfl, rfl⟩)
        | (go_at_call 23
           with_reducible refine (get_kept (some ⟨w2.heap.size, 0, none⟩) n n (setI zs n (j : Int) true) (j : Int) w3 _ HP3.out (setI_bytes HX.out _ _ _) HJ0.out HJ1.out HN5.out (below_drewN hb4 _)).mono ?_
           rintro e w9 ⟨rfl, d9, rfl⟩
           rw [HV.out]))
      go_ret
      exact ⟨rfl, below_drewN (HB3.out.trans (hb4.mono HB3.out.size)) _⟩
  · have HV : Hid (bitI (setI zs n x v) (j : Int) = bitI zs (j : Int)) := Lib.hid (by rw [HS.out v, if_neg hjx])
    go_wp2_with (first
      | (go_at_call 20; refine (hj.out _).mono ?_; rintro e w8 ⟨rfl, rfl⟩)
      | (go_at_call 23
         with_reducible refine (get_kept (some ⟨w2.heap.size, 0, none⟩) n n (setI zs n x v) (j : Int) w3 _ HP3.out (setI_bytes HX.out _ _ _) HJ0.out HJ1.out HN5.out (below_drewN hb4 _)).mono ?_
         rintro e w9 ⟨rfl, d9, rfl⟩
         rw [HV.out])
      | (go_at_call 23
         with_reducible refine (get_kept A n c zs (j : Int) w3 _ HR3.out HX.out HJ0.out HJ1.out HN5.out (below_drewN hb4 _)).mono ?_
         rintro e w10 ⟨rfl, d10, rfl⟩))
    go_ret
    exact ⟨rfl, below_drewN (HB3.out.trans (hb4.mono HB3.out.size)) _⟩

set_option maxHeartbeats 2000000 in
theorem walk_far (A : Option Addr) (n c : Nat) (zs : List Int) (x : Int) (v : Bool) (k : Int) (j : Nat) (w : World) (hr : Row .u8 w w.heap.size A n zs) (hx : Bytes8 zs) (hn : n ≤ 100) (h0 : -9223372036854775808 ≤ x) (h1 : x ≤ 9223372036854775807)
    (hj : Hid (∀ W, Calls Try.prog 20 #[.int .i64 k, .int .i64 (8 * (n : Int) + 2)] W fun e w' => e = .returned (.int .i64 (j : Int)) ∧ W = w')) (hj1 : (j : Int) ≤ 10000) :
    Calls Try.prog 5 #[.slice A n c, .int .i64 x, .bool false, .bool v, .int .i64 k] w fun e w' => e = .returned (.bool true) ∧ Below w.heap.size w w' := by
  have HR := Lib.hid hr
  have HX := Lib.hid hx
  have H0 := Lib.hid h0
  have H1 := Lib.hid h1
  have HS := Lib.hid (fun v => bitI_setI hx hr.1 x v j)
  have HJ0 : Hid (-9223372036854775808 ≤ (j : Int)) := Lib.hid (by omega)
  have HJ1 : Hid ((j : Int) ≤ 9223372036854775807) := Lib.hid (by omega)
  have HN5 : Hid (n ≤ 100000) := Lib.hid (by omega)
  clear hr hx h0 h1 hj1
  go_enter Try.func5, Try.ntmps5
  go_wp2_with (first
    | (go_at_call 8
       refine (awake_any _).mono ?_
       rintro e w1 ⟨rfl, hb⟩
       have HB1 := Lib.hid hb
       have HR1 := Lib.hid ((HR.out.below hb).more hb.size)
       clear hb)
    | (go_at_call 15
       refine (lent_all A n c zs _ HR1.out (by omega)).mono ?_
       rintro e w2 ⟨rfl, hr2, hm2, hw2, hb, hz⟩
       have HR2 := Lib.hid hr2
       have HM2 := Lib.hid hm2
       have HW2 := Lib.hid hw2
       have HB2 := Lib.hid (HB1.out.trans (hb.mono HB1.out.size))
       clear hr2 hm2 hw2 hb)
    | (go_at_call 21
       refine (set_all _ n _ zs x v _ HM2.out HX.out H0.out H1.out (by omega)).mono ?_
       rintro e w3 ⟨rfl, hp, hb⟩
       have HP3 := Lib.hid hp
       have HR3 := Lib.hid ((HR2.out.below hb).more hb.size)
       have HW3 := Lib.hid (HW2.out.below hb hz)
       have HB3 := Lib.hid (HB2.out.trans (hb.mono HB2.out.size))
       clear hp hb))
  have KS : Hid (∀ W, Below w3.heap.size w3 W → (convert 25 9 (.slice (some ⟨w2.heap.size, 0, none⟩) n n)).run Try.prog W = .ok (.string (strOfNums (setI zs n x v))) W ∧ Below w3.heap.size w3 W) :=
    fun W h => ⟨conv_row _ _ _ _ _ ((HP3.out.below h).more h.size), h⟩
  go_region_held (fun W => (convert 25 9 (.slice (some ⟨w2.heap.size, 0, none⟩) n n)).run Try.prog W = .ok (.string (strOfNums (setI zs n x v))) W ∧ Below w3.heap.size w3 W)
    (first | exact KS.out _ (Below.refl _ _).drew | exact KS.out _ hb4 | exact KS.out _ (below_drewN hb4 _))
    (first
      | (go_at_call 22
         refine (refset_kept A n c zs x v w3 _ HR3.out HX.out H0.out H1.out (by omega) ?_).mono ?_
         · first | assumption | (exact (Below.refl _ _).drew)
         rintro e w4 ⟨B4, c4, rfl, hc4, hb4⟩)
      | (go_at_call 19
         refine (stays_kept A n c w1.heap.size zs w3 _ HR3.out HW3.out (by omega) ?_).mono ?_
         · first | assumption | exact hb4
         rintro e w5 ⟨rfl, d5, rfl⟩)
      | (go_at_call 23
         refine (get_kept A n c zs x w3 _ HR3.out HX.out H0.out H1.out (by omega) ?_).mono ?_
         · first | assumption | exact hb4 | exact below_drewN hb4 _
         rintro e w6 ⟨rfl, d6, rfl⟩)
      | (go_at_call 24
         refine (bit_kept A n c zs x w3 _ HR3.out HX.out H0.out H1.out (by omega) ?_).mono ?_
         · first | assumption | exact hb4 | exact below_drewN hb4 _
         rintro e w7 ⟨rfl, d7, rfl⟩))
  by_cases hjx : (j : Int) = x
  · subst hjx
    rcases v with _ | _
    · have HV : Hid (bitI (setI zs n (j : Int) false) (j : Int) = false) := Lib.hid (by rw [HS.out false, if_pos rfl]; rfl)
      go_wp2_with (first
        | (go_at_call 20; refine (hj.out _).mono ?_; rintro e w8 ⟨rfl, rfl⟩)
        | (go_at_call 23
           with_reducible refine (get_kept (some ⟨w2.heap.size, 0, none⟩) n n (setI zs n (j : Int) false) (j : Int) w3 _ HP3.out (setI_bytes HX.out _ _ _) HJ0.out HJ1.out HN5.out (below_drewN hb4 _)).mono ?_
           rintro e w9 ⟨rfl, d9, rfl⟩
           rw [HV.out]))
      go_ret
      exact ⟨rfl, below_drewN (HB3.out.trans (hb4.mono HB3.out.size)) _⟩
    · have HV : Hid (bitI (setI zs n (j : Int) true) (j : Int) = decide ((j : Int) < 8 * (n : Int))) := Lib.hid (by rw [HS.out true, if_pos rfl]; rfl)
      go_wp2_with (first
        | (go_at_call 20; refine (hj.out _).mono ?_; rintro e w8 ⟨rfl, rfl⟩)
        | (go_at_call 23
           with_reducible refine (get_kept (some ⟨w2.heap.size, 0, none⟩) n n (setI zs n (j : Int) true) (j : Int) w3 _ HP3.out (setI_bytes HX.out _ _ _) HJ0.out HJ1.out HN5.out (below_drewN hb4 _)).mono ?_
           rintro e w9 ⟨rfl, d9, rfl⟩
           rw [HV.out]))
      go_ret
      exact ⟨rfl, below_drewN (HB3.out.trans (hb4.mono HB3.out.size)) _⟩
  · have HV : Hid (bitI (setI zs n x v) (j : Int) = bitI zs (j : Int)) := Lib.hid (by rw [HS.out v, if_neg hjx])
    go_wp2_with (first
      | (go_at_call 20; refine (hj.out _).mono ?_; rintro e w8 ⟨rfl, rfl⟩)
      | (go_at_call 23
         with_reducible refine (get_kept (some ⟨w2.heap.size, 0, none⟩) n n (setI zs n x v) (j : Int) w3 _ HP3.out (setI_bytes HX.out _ _ _) HJ0.out HJ1.out HN5.out (below_drewN hb4 _)).mono ?_
         rintro e w9 ⟨rfl, d9, rfl⟩
         rw [HV.out])
      | (go_at_call 23
         with_reducible refine (get_kept A n c zs (j : Int) w3 _ HR3.out HX.out HJ0.out HJ1.out HN5.out (below_drewN hb4 _)).mono ?_
         rintro e w10 ⟨rfl, d10, rfl⟩))
    go_ret
    exact ⟨rfl, below_drewN (HB3.out.trans (hb4.mono HB3.out.size)) _⟩

theorem walk (a0 : Option Addr) (len0 cap0 : Nat) (z0 : List Int) (a1 : Int) (a2 : Bool) (a3 : Bool) (a4 : Int) (w : World) (w0 : IsRow .u8 w a0 len0 cap0 z0) (w1 : (Lit.int .i64 a1).wf = true) (w4 : (Lit.int .i64 a4).wf = true) :
    Calls Try.prog 5 #[.slice a0 len0 cap0, .int .i64 a1, .bool a2, .bool a3, .int .i64 a4] w fun e w' => e = .returned (.bool true) ∧ Below w.heap.size w w' := by
  have hb := bounds_i64 w1
  have hb4 := bounds_i64 w4
  rcases Nat.lt_or_ge 100 len0 with h | h
  · exact walk_long a0 len0 cap0 a1 a2 a3 a4 w h
  · obtain ⟨j, hj⟩ := Int.eq_ofNat_of_zero_le (Int.emod_nonneg a4 (show 8 * (len0 : Int) + 2 ≠ 0 by omega))
    have hjlt := Int.emod_lt_of_pos a4 (show 0 < 8 * (len0 : Int) + 2 by omega)
    have HJ : Hid (∀ W, Calls Try.prog 20 #[.int .i64 a4, .int .i64 (8 * (len0 : Int) + 2)] W fun e w' => e = .returned (.int .i64 (j : Int)) ∧ W = w') := fun W => by
      rw [← hj]; exact within_any a4 _ W (by omega) (by omega) (by omega) (by omega)
    rcases a2 with _ | _
    · exact walk_far a0 len0 cap0 _ a1 a3 a4 j w w0.row w0.bytes h (by omega) (by omega) HJ (by omega)
    · have h0 := Int.emod_nonneg a1 (show 8 * (len0 : Int) + 2 ≠ 0 by omega)
      have h1 := Int.emod_lt_of_pos a1 (show 0 < 8 * (len0 : Int) + 2 by omega)
      exact walk_near a0 len0 cap0 _ a1 (a1 % (8 * (len0 : Int) + 2)) a3 a4 j w w0.row w0.bytes h (by omega) (by omega) (fun W => within_any a1 _ W (by omega) (by omega) (by omega) (by omega)) HJ (by omega)

/-! ### THE ROW's STEP: WRITTEN OUT: LEAVE IT -/
set_option maxRecDepth 100000 in
theorem lifted (os : Os) (started : os.Started) (H : Type) (enc : TypeId × Value → H) :
    ReturnsInHanded {} Try.checked os 5 .any (Rows.bitsSetsSpec.pre6 enc Try.prog Try.f5 Rows.bitsSetsRow.domain false) (Rows.bitsSetsSpec.post enc Try.prog Try.f5 false true false false) := by
  refine returnsInHanded_of_change (C := Try.checked) own started (by kernel_rfl) Try.func5
    (ChangeSpec.witness6 (enc := enc) (C := Try.checked) false ⟨#[], #[.slice none 0 0, .int .i64 0, .bool false, .bool false, .int .i64 0], []⟩ 8 (by kernel_rfl) (by kernel_rfl) (by kernel_rfl) (by kernel_rfl)) ?_
  intro W base args ds gs before hval0 hW hcnd _
  have hval : ∀ (j : Nat) t v, Try.f5.params[j]? = some t → args[j]? = some v → Value.okWide Try.prog W .any base t v := hval0
  have hW' := hW
  obtain ⟨p, q, hA0, hV, rfl, hfz, hnd⟩ := hW
  have hA : DataW.TrodAll enc Try.prog W 0 (fun _ => true) true Try.f5.params.toList args.toList ds p := hA0
  rw [Try.params5] at hA hval
  obtain ⟨v0, vs0, d0, ds0, p0, q0, hargs, rfl, rfl, h0, r0⟩ := trodAll_cons hA
  obtain ⟨v1, vs1, d1, ds1, p1, q1, rfl, rfl, rfl, h1, r1⟩ := trodAll_cons r0
  obtain ⟨v2, vs2, d2, ds2, p2, q2, rfl, rfl, rfl, h2, r2⟩ := trodAll_cons r1
  obtain ⟨v3, vs3, d3, ds3, p3, q3, rfl, rfl, rfl, h3, r3⟩ := trodAll_cons r2
  obtain ⟨v4, vs4, d4, ds4, p4, q4, rfl, rfl, rfl, h4, r4⟩ := trodAll_cons r3
  obtain ⟨rfl, rfl, rfl⟩ := trodAll_nil r4
  obtain rfl : args = #[v0, v1, v2, v3, v4] := by cases args; simp_all
  obtain ⟨rfl, rfl⟩ := trodVars_none hV
  obtain ⟨a0, len0, cap0, rfl⟩ := okWide_slice Try.underlying25 (hval 0 25 v0 rfl rfl)
  have k0 := h0
  have lt0 : ∀ x ∈ p0, x.block < W.heap.size := by obtain ⟨m, hm⟩ := k0; exact DataW.trod_lt m _ _ _ hm
  obtain ⟨z0, w0⟩ : ∃ zs, IsRow .u8 W a0 len0 cap0 zs := by
    obtain ⟨fuel, hf⟩ := h0
    rcases open_ints Try.underlying25 Try.underlying5 (by kernel_rfl) hf with ⟨hcs, _⟩ | ⟨x, l, c, zs, hcs, _, hl, hm, hz, _, hcell, hwz⟩
    · simp [Value.cells] at hcs
      obtain ⟨rfl, rfl, rfl⟩ := hcs
      exact ⟨[], .inl ⟨rfl, rfl, rfl, rfl⟩⟩
    · simp [Value.cells] at hcs
      obtain ⟨rfl, rfl, rfl⟩ := hcs
      exact ⟨zs, .inr ⟨_, rfl, hl, hm, by simpa using hz, hcell, hwz⟩⟩
  obtain ⟨a1, rfl, rfl, rfl, w1⟩ := open_int Try.underlying3 (hval 1 3 v1 rfl rfl) h1
  obtain ⟨a2, rfl, rfl, rfl⟩ := open_bool Try.underlying4 (hval 2 4 v2 rfl rfl) h2
  obtain ⟨a3, rfl, rfl, rfl⟩ := open_bool Try.underlying4 (hval 3 4 v3 rfl rfl) h3
  obtain ⟨a4, rfl, rfl, rfl, w4⟩ := open_int Try.underlying3 (hval 4 3 v4 rfl rfl) h4
  clear hA0 hval0
  refine (walk a0 len0 cap0 z0 a1 a2 a3 a4 W w0 w1 w4).mono fun e W' ⟨he, bel⟩ => ?_
  subst he
  exact ⟨_, rfl, _, _, _, [], _, [], hW', trodAll_mk1 (shut_bool Try.underlying4 _), (trodAll_cons_mk (Below.trod laidOut (by kernel_rfl) (of_decide_eq_true (by kernel_rfl)) k0 bel lt0) (trodAll_cons_mk (shut_int Try.underlying3 w1) (trodAll_cons_mk (shut_bool Try.underlying4 _) (trodAll_cons_mk (shut_bool Try.underlying4 _) (trodAll_cons_mk (shut_int Try.underlying3 w4) trodAll_mk0))))), rfl, bel.frame _, fun h => by cases h⟩

theorem over : Rows.bitsSetsRow.holds Try.pinned (OpenSpec.ofChange Rows.bitsSetsSpec) :=
  OpenClaim.holds_of_wide 5 Try.f5 rfl rfl rfl rfl rfl rfl rfl ⟨rfl, rfl, rfl, rfl, rfl⟩ rfl rfl rfl rfl rfl (by kernel_rfl) Try.func5 (by kernel_rfl)
    (of_decide_eq_true (by kernel_rfl)) (by unfold Func.isWrapper; first | (rw [if_pos (by decide +kernel)]; kernel_rfl) | (rw [if_neg (by decide +kernel)]; exact ⟨rfl, rfl⟩))
    (fun os started H enc _ => lifted os started H enc)

/-- ████ THE STATEMENT ████ -/
theorem proved : Rows.BitsSetsSaid := over
#print axioms proved
end Go.Proofs.Ythcehfofifdmbaa.bitsSets

/- Proved: for every three ints, busbarlaw9.RingFull returns true. Conditions: none. -/
import Derived.Test.YtcmnhpogepahgaaAwake9
namespace Go.Proofs.Ytcmnhpogepahgaa.ringFull
open Go.ChangeShapes Go.WideShapes Go.ChangeAt Go.RowKit
open Go.ChangeMaps (open_string shut_string)
set_option linter.unusedVariables false      -- a walk need not use every 'w<i>' (that an integer argument fits its kind)


theorem size_off {S : Nat → Prop} {w w' : World} (h : Off S w w') : w.heap.size ≤ w'.heap.size := h.size
/-- A row that was made behind a queue. -/
theorem own_off {w w' : World} {g p n c : Nat} {A : Option Addr} {zs : List Int} (hlt : g < w.heap.size ∧ p < w.heap.size) (h : w'.ownsRow w.heap.size 5 1 (.slice A n c) n (zs.map (Value.int .u8))) : RowOff w' (GP g p) A n zs := by
  have hl : zs.length = n := by have := h.1; rw [List.length_map] at this; omega
  refine ⟨hl, fun h0 => ?_⟩
  obtain ⟨b, cap, he, hb, hr⟩ := row_of_own h h0
  injection he with he
  subst he
  have hr2 := RowV.ints (k := .u8) hr
  obtain ⟨b', off, e, hlt2, hc⟩ := hr2.2 h0
  injection e with e
  injection e with e1 e2
  subst e1 e2
  exact ⟨b, 0, rfl, hlt2, by unfold GP; omega, hc⟩
theorem own_capV {w : World} {base : Nat} {A : Option Addr} {n c : Nat} {xs : List Value} (h : w.ownsRow base 5 1 (.slice A n c) n xs) : n ≤ c := by
  rcases h.2 with ⟨e, h0⟩ | ⟨g, cap, cur, e, _, _, hnc, _⟩
  · omega
  · injection e with _ _ e
    omega

set_option maxRecDepth 100000 in
set_option maxHeartbeats 4000000 in
theorem walk_at (a0 a1 a2 : Int) (M N O m1 mt : Nat) (w : World) (b0 : -9223372036854775808 ≤ a0 ∧ a0 ≤ 9223372036854775807) (b1 : -9223372036854775808 ≤ a1 ∧ a1 ≤ 9223372036854775807) (b2 : -9223372036854775808 ≤ a2 ∧ a2 ≤ 9223372036854775807)
    (hM : a0 % 400 = (M : Int)) (hN : a1 % 600 = (N : Int)) (hO : a2 % 600 = (O : Int)) (hm1 : (N ≤ M ∧ m1 = N) ∨ (M < N ∧ m1 = M)) (hmt : (O ≤ m1 ∧ mt = O) ∨ (m1 < O ∧ mt = m1)) :
    Calls Try.prog 9 #[.int .i64 a0, .int .i64 a1, .int .i64 a2] w fun e w' => e = .returned (.bool true) ∧ Below w.heap.size w w' := by
  have CW0 := Lib.hid (fun W => within_any a0 400 W b0.1 b0.2 (by omega) (by omega))
  have CW1 := Lib.hid (fun W => within_any a1 600 W b1.1 b1.2 (by omega) (by omega))
  have CW2 := Lib.hid (fun W => within_any a2 600 W b2.1 b2.2 (by omega) (by omega))
  rw [hM] at CW0
  rw [hN] at CW1
  rw [hO] at CW2
  have hM2 : M < 400 := by omega
  have hN2 : N < 600 := by omega
  have hO2 : O < 600 := by omega
  have HM1 := Lib.hid hm1
  have HMT := Lib.hid hmt
  have CN := Lib.hid (fun W => new_any (M : Int) M W (by omega) (by omega) (by rw [if_neg (show ¬ (M : Int) < 0 by omega), if_neg (show ¬ (65536 : Int) < (M : Int) by omega)]))
  have CNN := Lib.hid (fun W => new_any (-1) 0 W (by omega) (by omega) (by decide))
  have CS := Lib.hid (fun W => some_any 1 (N : Int) N W (by omega) (by omega) (.inr rfl) (by omega))
  have CS2 := Lib.hid (fun W => some_any 1 1000 1000 W (by omega) (by omega) (.inr rfl) (by omega))
  have CS3 := Lib.hid (fun W => some_any 0 1 1 W (by omega) (by omega) (.inr rfl) (by omega))
  have hle1 : m1 ≤ M := by omega
  have hle2 : m1 ≤ N := by omega
  have hle3 : mt ≤ m1 := by omega
  clear hM hN hO b0 b1 b2 hm1 hmt
  rcases HM1.out with ⟨k1, k2⟩ | ⟨k1, k2⟩
  all_goals
    first
      | have q1 : ((m1 : Int) == (N : Int)) = true := beq_iff_eq.2 (by omega)
      | have q1 : ((m1 : Int) == (M : Int)) = true := beq_iff_eq.2 (by omega)
    try have k5 := Nat.not_lt.2 k1
    clear k2
    rcases HMT.out with ⟨k3, k4⟩ | ⟨k3, k4⟩
    all_goals
      first
        | have q2 : ((mt : Int) == (O : Int)) = true := beq_iff_eq.2 (by omega)
        | have q2 : ((mt : Int) == (m1 : Int)) = true := beq_iff_eq.2 (by omega)
      try have k6 := Nat.not_lt.2 k3
      clear k4
      go_enter Try.func9, Try.ntmps9
      go_wp2_with (first
        | (go_at_call 33; refine (awake_any _).mono ?_; rintro e w1 ⟨rfl, hb⟩; have HB1 := Lib.hid hb; clear hb)
        | (go_at_call 22; (with_reducible refine (CW0.out _).mono ?_); rintro e w' ⟨rfl, rfl⟩)
        | (go_at_call 22; (with_reducible refine (CW1.out _).mono ?_); rintro e w' ⟨rfl, rfl⟩)
        | (go_at_call 22; (with_reducible refine (CW2.out _).mono ?_); rintro e w' ⟨rfl, rfl⟩)
        | (go_at_call 34
           (with_reducible refine (CN.out _).mono ?_)
           rintro e w2 ⟨g, p, rfl, hr, hg, hp, hb⟩
           have HB2 := Lib.hid (HB1.out.trans (hb.mono HB1.out.size))
           have HR2 := Lib.hid hr
           have HGP : Hid (w.heap.size ≤ g ∧ w.heap.size ≤ p) := by have := HB1.out.size; show _ ∧ _; omega
           clear hr hg hp hb)
        | (go_at_call 37
           (with_reducible refine (CS.out _).mono ?_)
           rintro e w3 ⟨A3, c3, rfl, ho, hb⟩
           have HB3 := Lib.hid (HB2.out.trans (hb.mono HB2.out.size))
           have C4 := Lib.hid (put_any w3 g p M 0 [] A3 N c3 (someL 1 N) m1 (HR2.out.below hb) (own_off HR2.out.lt ho) (by omega) (own_capV ho) (by have := HM1.out; show _ = min N (M - 0); omega))
           clear ho hb)
        | (go_at_call 38
           (with_reducible refine C4.out.mono ?_)
           rintro e w4 ⟨rfl, hr, ho⟩
           have HB4 : Hid (Below w.heap.size w w4) := below_gp HB3.out HB3.out.size ho HGP.out.1 HGP.out.2
           have hlq : ([] ++ (someL 1 N).take m1).length = m1 := by rw [List.nil_append, List.length_take, someL_length]; omega
           have C5 := Lib.hid (take_any w4 g p M 0 _ (O : Int) mt hr (by rw [hlq]; have := HMT.out; unfold Cnt; omega))
           have HQ4 := Lib.hid hlq
           have HLT4 := Lib.hid hr.lt
           clear hr ho hlq)
        | (go_at_call 42
           (with_reducible refine C5.out.mono ?_)
           rintro e w5 ⟨b5, rfl, hbb, hW, hr, ho⟩
           have HB5 : Hid (Below w.heap.size w w5) := below_gp HB4.out HB4.out.size ho HGP.out.1 HGP.out.2
           have HR5 := Lib.hid hr
           clear hr ho hbb hW)
        | (go_at_call 37
           (with_reducible refine (CS2.out _).mono ?_)
           rintro e w6 ⟨A6, c6, rfl, ho, hb⟩
           have HB6 := Lib.hid (HB5.out.trans (hb.mono HB5.out.size))
           have hl5 : (([] ++ (someL 1 N).take m1).drop mt).length = m1 - mt := by rw [List.length_drop, HQ4.out]
           have hp := put_any w6 g p M _ _ A6 1000 c6 (someL 1 1000) (M - (m1 - mt)) (HR5.out.below hb) (own_off HR5.out.lt ho) (by omega) (own_capV ho) (by rw [hl5]; omega)
           have hc : Calls Try.prog 38 #[.pointer (some ⟨g, 0, none⟩), .slice A6 1000 c6] w6 fun e w' => e = .returned (.int .i64 ((M : Int) - (m1 : Int) + (mt : Int))) ∧ ∃ f qs, RingAt w' g p M f qs ∧ qs.length = M ∧ Off (GP g p) w6 w' := by
             refine hp.mono ?_
             rintro e w' ⟨rfl, hr, ho⟩
             refine ⟨ret_int (by omega), _, _, hr, ?_, ho⟩
             rw [List.length_append, hl5, List.length_take, someL_length]
             omega
           have C7 := Lib.hid hc
           clear ho hb hl5 hp hc)
        | (go_at_call 38
           (with_reducible refine C7.out.mono ?_)
           rintro e w7 ⟨rfl, f7, q7, hr, hq, ho⟩
           have HB7 : Hid (Below w.heap.size w w7) := below_gp HB6.out HB6.out.size ho HGP.out.1 HGP.out.2
           have HR7 := Lib.hid hr
           have HQ7 := Lib.hid hq
           clear hr ho hq)
        | (go_at_call 34
           (with_reducible refine (CNN.out _).mono ?_)
           rintro e w8 ⟨g8, p8, rfl, hr, hg, hp, hb⟩
           have HB8 := Lib.hid (HB7.out.trans (hb.mono HB7.out.size))
           have HR8 := Lib.hid hr
           have HGP8 : Hid (w.heap.size ≤ g8 ∧ w.heap.size ≤ p8) := by have := HB7.out.size; show _ ∧ _; omega
           have hrm := room_any w8 g p M f7 q7 (HR7.out.below hb)
           rw [HQ7.out, Int.sub_self] at hrm
           have CRM := Lib.hid hrm
           have CLN := Lib.hid (fun d => len_any (w8.drewN d) g p M f7 q7 ((HR7.out.below hb).drewN d))
           rw [HQ7.out] at CLN
           clear hr hg hp hb hrm)
        | (go_at_call 45; (with_reducible refine CRM.out.mono ?_); rintro e w9 ⟨rfl, d9, rfl⟩)
        | (go_at_call 44; (with_reducible refine (CLN.out _).mono ?_); rintro e w9 ⟨rfl, rfl⟩)
        | (go_at_call 37
           (with_reducible refine (CS3.out _).mono ?_)
           rintro e w10 ⟨A10, c10, rfl, ho, hb⟩
           have HB10 := Lib.hid (HB8.out.trans ((below_from hb).mono HB8.out.size))
           have C11 := Lib.hid (put_any w10 g8 p8 0 0 [] A10 1 c10 (someL 0 1) 0 ((HR8.out.drewN d9).below hb) (own_off (HR8.out.drewN d9).lt ho) (by omega) (own_capV ho) (by simp))
           clear ho hb)
        | (go_at_call 38
           (with_reducible refine C11.out.mono ?_)
           rintro e w11 ⟨rfl, hr, ho⟩
           have HB11 : Hid (Below w.heap.size w w11) := below_gp HB10.out HB10.out.size ho HGP8.out.1 HGP8.out.2
           have C12 := Lib.hid (take_any w11 g8 p8 0 0 _ 5 0 hr (.inr (.inr ⟨by simp, by simp⟩)))
           clear hr ho)
        | (go_at_call 42
           (with_reducible refine C12.out.mono ?_)
           rintro e w12 ⟨b12, rfl, hbb, hW, hr, ho⟩
           have HB12 : Hid (Below w.heap.size w w12) := below_gp HB11.out HB11.out.size ho HGP8.out.1 HGP8.out.2
           clear hr ho hbb hW))
      go_ret
      exact ⟨rfl, HB12.out⟩

theorem walk (a0 a1 a2 : Int) (w0 : (Lit.int .i64 a0).wf = true) (w1 : (Lit.int .i64 a1).wf = true) (w2 : (Lit.int .i64 a2).wf = true) (w : World) :
    Calls Try.prog 9 #[.int .i64 a0, .int .i64 a1, .int .i64 a2] w fun e w' => e = .returned (.bool true) ∧ Below w.heap.size w w' := by
  have h0 := Int.emod_nonneg a0 (show (400 : Int) ≠ 0 by omega)
  have h1 := Int.emod_nonneg a1 (show (600 : Int) ≠ 0 by omega)
  have h2 := Int.emod_nonneg a2 (show (600 : Int) ≠ 0 by omega)
  obtain ⟨M, hM⟩ := Int.eq_ofNat_of_zero_le h0
  obtain ⟨N, hN⟩ := Int.eq_ofNat_of_zero_le h1
  obtain ⟨O, hO⟩ := Int.eq_ofNat_of_zero_le h2
  exact walk_at a0 a1 a2 M N O (min N M) (min O (min N M)) w (bounds_i64 w0) (bounds_i64 w1) (bounds_i64 w2) hM hN hO (by omega) (by omega)

/-! ### THE ROW's STEP: WRITTEN OUT: LEAVE IT -/
set_option maxRecDepth 100000 in
theorem lifted (os : Os) (started : os.Started) (H : Type) (enc : TypeId × Value → H) :
    ReturnsInHanded {} Try.checked os 9 .any (Rows.ringFullSpec.pre6 enc Try.prog Try.f9 Rows.ringFullRow.domain false) (Rows.ringFullSpec.post enc Try.prog Try.f9 false true false false) := by
  refine returnsInHanded_of_change (C := Try.checked) own started (by kernel_rfl) Try.func9
    (ChangeSpec.witness6 (enc := enc) (C := Try.checked) false ⟨#[], #[.int .i64 0, .int .i64 0, .int .i64 0], []⟩ 8 (by kernel_rfl) (by kernel_rfl) (by kernel_rfl) (by kernel_rfl)) ?_
  intro W base args ds gs before hval0 hW hcnd _
  have hval : ∀ (j : Nat) t v, Try.f9.params[j]? = some t → args[j]? = some v → Value.okWide Try.prog W .any base t v := hval0
  have hW' := hW
  obtain ⟨p, q, hA0, hV, rfl, hfz, hnd⟩ := hW
  have hA : DataW.TrodAll enc Try.prog W 0 (fun _ => true) true Try.f9.params.toList args.toList ds p := hA0
  rw [Try.params9] at hA hval
  obtain ⟨v0, vs0, d0, ds0, p0, q0, hargs, rfl, rfl, h0, r0⟩ := trodAll_cons hA
  obtain ⟨v1, vs1, d1, ds1, p1, q1, rfl, rfl, rfl, h1, r1⟩ := trodAll_cons r0
  obtain ⟨v2, vs2, d2, ds2, p2, q2, rfl, rfl, rfl, h2, r2⟩ := trodAll_cons r1
  obtain ⟨rfl, rfl, rfl⟩ := trodAll_nil r2
  obtain rfl : args = #[v0, v1, v2] := by cases args; simp_all
  obtain ⟨rfl, rfl⟩ := trodVars_none hV
  obtain ⟨a0, rfl, rfl, rfl, w0⟩ := open_int Try.underlying3 (hval 0 3 v0 rfl rfl) h0
  obtain ⟨a1, rfl, rfl, rfl, w1⟩ := open_int Try.underlying3 (hval 1 3 v1 rfl rfl) h1
  obtain ⟨a2, rfl, rfl, rfl, w2⟩ := open_int Try.underlying3 (hval 2 3 v2 rfl rfl) h2
  clear hA0 hval0
  simp only [List.append_nil] at hW'
  refine (walk a0 a1 a2 w0 w1 w2 W).mono fun e W' ⟨he, bel⟩ => ?_
  subst he
  exact ⟨_, rfl, _, _, _, [], _, [], hW', trodAll_mk1 (shut_bool Try.underlying4 _), (trodAll_cons_mk (shut_int Try.underlying3 w0) (trodAll_cons_mk (shut_int Try.underlying3 w1) (trodAll_cons_mk (shut_int Try.underlying3 w2) trodAll_mk0))), rfl, bel.frame _, fun h => by cases h⟩

theorem over : Rows.ringFullRow.holds Try.pinned (OpenSpec.ofChange Rows.ringFullSpec) :=
  OpenClaim.holds_of_wide 9 Try.f9 rfl rfl rfl rfl rfl rfl rfl ⟨rfl, rfl, rfl, rfl, rfl⟩ rfl rfl rfl rfl rfl (by kernel_rfl) Try.func9 (by kernel_rfl)
    (of_decide_eq_true (by kernel_rfl)) (by unfold Func.isWrapper; first | (rw [if_pos (by decide +kernel)]; kernel_rfl) | (rw [if_neg (by decide +kernel)]; exact ⟨rfl, rfl⟩))
    (fun os started H enc _ => lifted os started H enc)

/-- ████ THE STATEMENT ████ -/
theorem proved : Rows.RingFullSaid :=
  over
#print axioms proved
end Go.Proofs.Ytcmnhpogepahgaa.ringFull

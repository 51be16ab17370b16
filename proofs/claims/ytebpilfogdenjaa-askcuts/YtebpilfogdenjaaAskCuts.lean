/- Proved: for every two ints and every byte, busbarlaw5.AskCuts returns true. Conditions: none. -/
import Derived.Test.YtebpilfogdenjaaLAsk4
import Derived.Test.YtebpilfogdenjaaAwake5
import Derived.Test.YtebpilfogdenjaaPBytes
import Derived.Test.YtebpilfogdenjaaPEnc
namespace Go.Proofs.Ytebpilfogdenjaa.askCuts
open Go.ChangeShapes Go.WideShapes Go.ChangeAt Go.RowKit
open Go.ChangeMaps (open_string shut_string)
set_option linter.unusedVariables false      -- a walk need not use every 'w<i>' (that an integer argument fits its kind)


set_option maxHeartbeats 2000000 in
theorem cuts (k v x : Int) (w : World) (k0 : -9223372036854775808 ≤ k) (k1 : k ≤ 9223372036854775807) (v0 : -9223372036854775808 ≤ v) (v1 : v ≤ 9223372036854775807) (x0 : 0 ≤ x) (x1 : x ≤ 255) :
    Calls Try.prog 4 #[.int .i64 k, .int .i64 v, .int .u8 x] w fun e w' => e = .returned (.bool true) ∧ Below w.heap.size w w' := by
  go_enter Try.func4, Try.ntmps4
  go_wp2_with fail
  refine (awake_any _).mono ?_
  rintro e w1 ⟨rfl, hb1⟩
  have HB1 := Lib.hid hb1
  clear hb1
  go_wp2_with fail
  refine (lask_any k v _ k0 k1 v0 v1).mono ?_
  rintro e w2 ⟨fn, at_, n, y, an, orr, bl, wl, ra, rn, co, ob, BA, WA, bc, wc, bs, ws, rfl, hrt, hwd, hws, hob, how, hb2⟩
  have HB2 := Lib.hid (HB1.out.trans (hb2.mono HB1.out.size))
  have hbr := (own_row hob).bools
  have hwr := (own_row how).ints
  obtain rfl : bs.length = bl := hbr.1
  obtain rfl : ws.length = wl := hwr.1
  have HBR := Lib.hid hbr
  have HWR := Lib.hid hwr
  have HRt := Lib.hid hrt
  have HWd := Lib.hid hwd
  have HWs := Lib.hid hws
  clear hb2 hob how hbr hwr hrt hwd hws
  go_wp2_with fail
  refine (pbytes_yes fn at_ n y an orr bs ws ra rn co ob BA WA bs.length ws.length bc wc _ HWd.out HRt.out HBR.out HWR.out HWs.out).mono ?_
  rintro e w3 ⟨C, cap, rfl, ho, hb3⟩
  have HL := Lib.hid (enc_length at_ n y an orr bs ws ra rn co ob fn HRt.out)
  have HX := Lib.hid (enc_bytes at_ n y an orr bs ws ra rn co ob fn HRt.out HWd.out HWs.out)
  have HCut := Lib.hid (parse_cut at_ n y an orr bs ws ra rn co ob fn HRt.out)
  have HMore := Lib.hid (parse_more at_ n y an orr bs ws ra rn co ob fn HRt.out x)
  have HB3 := Lib.hid (HB2.out.trans (hb3.mono HB2.out.size))
  clear hb3
  generalize hE : enc fn at_ n y an orr bs ws ra rn co ob = E at *
  clear hE
  obtain ⟨L, hLe⟩ : ∃ L, E.length = L := ⟨_, rfl⟩
  rw [hLe] at ho
  have l0 : 4 ≤ L := by rw [← hLe]; exact HL.out.1
  have l1 : L ≤ 252 := by rw [← hLe]; exact HL.out.2.1
  have hcap := own_cap ho
  obtain ⟨g, cap', hv, hg, hrow⟩ := row_of_own ho (by omega)
  injection hv with e1 e2 e3
  subst e1 e3
  have HR3 := Lib.hid hrow.ints
  have HLe := Lib.hid hLe
  rw [hLe]
  clear ho hrow hLe HL
  go_wp2_with fail
  go_loopw [9, 10, 11] (fun i p f wr => ∃ j : Nat, 1 ≤ j ∧ j ≤ L ∧ i = .int .i64 (j : Int) ∧ Hid (Below w3.heap.size w3 wr)) (fun i _ _ _ => L - (intOf i).toNat)
  case atStart => exact ⟨1, by omega, by omega, rfl, Below.refl _ _⟩
  case round =>
    obtain ⟨j, j0, j1, rfl, HBr⟩ := hrel
    by_cases hlt : j < L
    · have hi : (j : Int) < (L : Int) := by omega
      have hjc : (j : Int) ≤ (cap : Int) := by omega
      go_wp2_with fail
      refine (parse_not (E.take j) j cap _ _ fn 3 (HCut.out j j0 (by rw [HLe.out]; exact hlt)) (take_row ((HR3.out.below HBr.out).more HBr.out.size) j (by omega)) (HX.out.take j) (by omega) (by omega)).mono ?_
      rintro e w5 ⟨BB, WB, bd, wd, rfl, hb5⟩
      have HB5 : Hid (Below w3.heap.size w3 w5) := HBr.out.trans (hb5.mono HBr.out.size)
      clear hb5
      go_wp2_with fail
      go_roundw
      case rel => exact ⟨j + 1, by omega, by omega, by go_num, HB5.out.alloc HB5.out.size _⟩
      case measure => simp [intOf]; omega
    · obtain rfl : L = j := by omega
      have HO0 := Lib.hid (own_none wr w.heap.size 5)
      have HBw : Hid (Below w.heap.size w wr) := HB3.out.trans (HBr.out.mono HB3.out.size)
      have HRr := Lib.hid ((HR3.out.below HBr.out).more HBr.out.size)
      go_wp2_with (first
        | (at_builtin
           refine wpList_append_row _ (o := ⟨some 49, _, _, _, _, _⟩) rfl (.const (.slice none 0 0)) (.tmp 48) 22 rfl w.heap.size 5 (.int .u8 0) 1 Try.underlying22 info5 rfl (.slice none 0 0) 0 [] rfl HO0.out _ _ L cap _ rfl HRr.out.v (one_cells _ _) (by omega) (by omega) HBw.out.size ?_
           intro v4 w4 hown hg4 hat
           rw [Nat.zero_add, List.nil_append] at hown
           obtain ⟨B4, c4, rfl⟩ := own_slice hown
           have HB4 := Lib.hid (below_append HBw.out HO0.out hg4 HBw.out.size)
           have HO4 := Lib.hid (hown.alloc (.cells #[.int .u8 x] 5))
           have hw1 : WholeV (w4.alloc (.cells #[.int .u8 x] 5)) w4.heap.size 5 [.int .u8 x] := heap_alloc_new w4 _
           have HW4 := Lib.hid hw1.row
           have HB4a := Lib.hid (HB4.out.alloc HB4.out.size (.cells #[.int .u8 x] 5))
           clear hown hg4 hat hw1)
        | (at_builtin
           refine wpList_append_row _ (o := ⟨some 52, _, _, _, _, _⟩) rfl (.tmp 49) (.tmp 51) 22 rfl w.heap.size 5 (.int .u8 0) 1 Try.underlying22 info5 rfl (.slice B4 L c4) L _ rfl HO4.out _ (some ⟨w4.heap.size, 0, none⟩) 1 1 _ rfl HW4.out (by simp [Value.oneCell']) (by omega) (by omega) HB4a.out.size ?_
           intro v5 w5 hown hg5 hat
           obtain ⟨B5, c5, rfl⟩ := own_slice hown
           have HB5 := Lib.hid (below_append HB4a.out HO4.out hg5 HB4a.out.size)
           have hc5 := own_cap hown
           have HR5 : Hid (Row .u8 w5 w5.heap.size B5 (L + 1) (E ++ [x])) := by
             have h := own_row hown
             rw [show E.map (Value.int .u8) ++ [.int .u8 x] = (E ++ [x]).map (Value.int .u8) by simp] at h
             exact h.ints
           clear hown hg5 hat))
      refine (parse_not (E ++ [x]) (L + 1) c5 _ _ fn 3 (HMore.out _ (by rw [HLe.out])) HR5.out (HX.out.app (Bytes8.one x0 x1)) (by omega) hc5).mono ?_
      rintro e w6 ⟨BB, WB, bd, wd, rfl, hb6⟩
      have HB6 : Hid (Below w.heap.size w w6) := HB5.out.trans (hb6.mono HB5.out.size)
      have HB6a := Lib.hid (HB6.out.alloc HB6.out.size (.cells #[.int .i64 fn, .int .i64 0, .int .i64 0, .int .u16 0, .int .u16 0, .int .u16 0, .slice BB 0 bd, .slice WB 0 wd, .int .i64 0, .int .i64 0, .int .i64 0, .int .i64 0] 30))
      clear hb6
      go_wp2_with fail
      refine (parse_not [] 0 0 none _ 0 1 ex0 (Row.nil _ _ _ _) (fun x hx => by cases hx) (by omega) (by omega)).mono ?_
      rintro e w7 ⟨BC, WC, be, we, rfl, hb7⟩
      have HB7 : Hid (Below w.heap.size w w7) := HB6a.out.trans (hb7.mono HB6a.out.size)
      clear hb7
      go_wp2
      go_ret
      exact ⟨rfl, HB7.out.alloc HB7.out.size _⟩

theorem walk (a0 : Int) (a1 : Int) (a2 : Int) (w0 : (Lit.int .i64 a0).wf = true) (w1 : (Lit.int .i64 a1).wf = true) (w2 : (Lit.int .u8 a2).wf = true) (w : World) :
    Calls Try.prog 4 #[.int .i64 a0, .int .i64 a1, .int .u8 a2] w fun e w' => e = .returned (.bool true) ∧ Below w.heap.size w w' := by
  have b0 := bounds_i64 w0
  have b1 := bounds_i64 w1
  have b2 := bounds_u8 w2
  exact cuts a0 a1 a2 w (by omega) (by omega) (by omega) (by omega) (by omega) (by omega)

/-! ### THE ROW's STEP: WRITTEN OUT: LEAVE IT -/
set_option maxRecDepth 100000 in
theorem lifted (os : Os) (started : os.Started) (H : Type) (enc : TypeId × Value → H) :
    ReturnsInHanded {} Try.checked os 4 .any (Rows.askCutsSpec.pre6 enc Try.prog Try.f4 Rows.askCutsRow.domain false) (Rows.askCutsSpec.post enc Try.prog Try.f4 false true false false) := by
  refine returnsInHanded_of_change (C := Try.checked) own started (by kernel_rfl) Try.func4
    (ChangeSpec.witness6 (enc := enc) (C := Try.checked) false ⟨#[], #[.int .i64 0, .int .i64 0, .int .u8 0], []⟩ 8 (by kernel_rfl) (by kernel_rfl) (by kernel_rfl) (by kernel_rfl)) ?_
  intro W base args ds gs before hval0 hW hcnd _
  have hval : ∀ (j : Nat) t v, Try.f4.params[j]? = some t → args[j]? = some v → Value.okWide Try.prog W .any base t v := hval0
  have hW' := hW
  obtain ⟨p, q, hA0, hV, rfl, hfz, hnd⟩ := hW
  have hA : DataW.TrodAll enc Try.prog W 0 (fun _ => true) true Try.f4.params.toList args.toList ds p := hA0
  rw [Try.params4] at hA hval
  obtain ⟨v0, vs0, d0, ds0, p0, q0, hargs, rfl, rfl, h0, r0⟩ := trodAll_cons hA
  obtain ⟨v1, vs1, d1, ds1, p1, q1, rfl, rfl, rfl, h1, r1⟩ := trodAll_cons r0
  obtain ⟨v2, vs2, d2, ds2, p2, q2, rfl, rfl, rfl, h2, r2⟩ := trodAll_cons r1
  obtain ⟨rfl, rfl, rfl⟩ := trodAll_nil r2
  obtain rfl : args = #[v0, v1, v2] := by cases args; simp_all
  obtain ⟨rfl, rfl⟩ := trodVars_none hV
  obtain ⟨a0, rfl, rfl, rfl, w0⟩ := open_int Try.underlying3 (hval 0 3 v0 rfl rfl) h0
  obtain ⟨a1, rfl, rfl, rfl, w1⟩ := open_int Try.underlying3 (hval 1 3 v1 rfl rfl) h1
  obtain ⟨a2, rfl, rfl, rfl, w2⟩ := open_int Try.underlying5 (hval 2 5 v2 rfl rfl) h2
  clear hA0 hval0
  simp only [List.append_nil] at hW'
  refine (walk a0 a1 a2 w0 w1 w2 W).mono fun e W' ⟨he, bel⟩ => ?_
  subst he
  exact ⟨_, rfl, _, _, _, [], _, [], hW', trodAll_mk1 (shut_bool Try.underlying4 _), (trodAll_cons_mk (shut_int Try.underlying3 w0) (trodAll_cons_mk (shut_int Try.underlying3 w1) (trodAll_cons_mk (shut_int Try.underlying5 w2) trodAll_mk0))), rfl, bel.frame _, fun h => by cases h⟩

theorem over : Rows.askCutsRow.holds Try.pinned (OpenSpec.ofChange Rows.askCutsSpec) :=
  OpenClaim.holds_of_wide 4 Try.f4 rfl rfl rfl rfl rfl rfl rfl ⟨rfl, rfl, rfl, rfl, rfl⟩ rfl rfl rfl rfl rfl (by kernel_rfl) Try.func4 (by kernel_rfl)
    (of_decide_eq_true (by kernel_rfl)) (by unfold Func.isWrapper; first | (rw [if_pos (by decide +kernel)]; kernel_rfl) | (rw [if_neg (by decide +kernel)]; exact ⟨rfl, rfl⟩))
    (fun os started H enc _ => lifted os started H enc)

/-- ████ THE STATEMENT ████ -/
theorem proved : Rows.AskCutsSaid :=
  over
#print axioms proved
end Go.Proofs.Ytebpilfogdenjaa.askCuts

/- Proved: for every three ints and every slice of bytes, busbarlaw4.HeadPuts returns true, and its argument reads as before. Conditions: none. -/
import Derived.Test.YtkaggkbjepggkaaAwake4
namespace Go.Proofs.Ytkaggkbjepggkaa.headPuts
open Go.ChangeShapes Go.WideShapes Go.ChangeAt Go.RowKit
open Go.ChangeMaps (open_string shut_string)
set_option linter.unusedVariables false


theorem walk_long (t l u : Int) (a0 : Option Addr) (len0 cap0 : Nat) (w : World) (hlen : 40 < len0) :
    Calls Try.prog 3 #[.int .i64 t, .int .i64 l, .int .i64 u, .slice a0 len0 cap0] w fun e w' => e = .returned (.bool true) ∧ Below w.heap.size w w' := by
  go_enter Try.func3, Try.ntmps3
  go_wp2_with (go_at_call 6; refine (awake_any _).mono ?_; rintro e w1 ⟨rfl, hb⟩; have HB := Lib.hid hb; clear hb)
  go_ret
  exact ⟨rfl, HB.out⟩

theorem walk_no (t l u : Int) (A : Option Addr) (n c : Nat) (w : World) (hn : n ≤ 40) (hf : ¬ hFits t l u) :
    Calls Try.prog 3 #[.int .i64 t, .int .i64 l, .int .i64 u, .slice A n c] w fun e w' => e = .returned (.bool true) ∧ Below w.heap.size w w' := by
  have HF := Lib.hid hf
  clear hf
  go_enter Try.func3, Try.ntmps3
  go_wp2_with (first
    | (go_at_call 6; refine (awake_any _).mono ?_; rintro e w1 ⟨rfl, hb⟩; have HB1 := Lib.hid hb; clear hb)
    | (go_at_call 7; refine (hput_no t l u _ HF.out).mono ?_; rintro e w2 ⟨rfl, hb⟩; have HB2 := Lib.hid (HB1.out.trans (hb.mono HB1.out.size)); clear hb)
    | (go_at_call 8; refine (rput_no t l u _ HF.out).mono ?_; rintro e w3 ⟨rfl, hb⟩; have HB3 := Lib.hid (HB2.out.trans (hb.mono HB2.out.size)); have hc := conv_row none 0 0 [] w3 (Row.nil _ _ _ _); clear hb))
  go_ret
  exact ⟨rfl, HB3.out⟩

theorem head_get (t l u : Int) (zs : List Int) (h : hFits t l u) : hGood (headOf t l u ++ zs) ∧ wordAt (headOf t l u ++ zs) 0 = t ∧ wordAt (headOf t l u ++ zs) 4 = l ∧ (headOf t l u ++ zs).getD 6 0 = u := by
  obtain ⟨⟨t0, t1⟩, ⟨l0, l1⟩, u0, u1⟩ := h
  have e0 : wordAt (headOf t l u ++ zs) 0 = t := by simp [wordAt, headOf, List.getD]; omega
  have e2 : wordAt (headOf t l u ++ zs) 2 = 0 := by simp [wordAt, headOf, List.getD]
  have e4 : wordAt (headOf t l u ++ zs) 4 = l := by simp [wordAt, headOf, List.getD]; omega
  refine ⟨⟨e2, ?_, ?_⟩, e0, e4, rfl⟩ <;> rw [e4] <;> assumption
theorem head_bytes (t l u : Int) (zs : List Int) (h : hFits t l u) (hx : Bytes8 zs) : Bytes8 (headOf t l u ++ zs) := by
  obtain ⟨⟨t0, t1⟩, ⟨l0, l1⟩, u0, u1⟩ := h
  intro x hm
  rcases List.mem_append.1 hm with hm | hm
  · simp [headOf] at hm; omega
  · exact hx x hm
theorem get_back (t l u : Int) (zs : List Int) (A : Option Addr) (n c : Nat) (W : World) (hf : hFits t l u) (hx : Bytes8 zs) (hr : Row .u8 W W.heap.size A n (headOf t l u ++ zs)) (h7 : 7 ≤ n) (hn : n ≤ 100000) :
    Calls Try.prog 9 #[.slice A n c] W fun x w' => x = .returned (.tuple #[.agg #[.int .i64 t, .int .i64 l, .int .i64 u], .int .i64 0]) ∧ Below W.heap.size W w' := by
  obtain ⟨h1, h2, h3, h4⟩ := head_get t l u zs hf
  have h := hget_ok A n c _ W hr (head_bytes t l u zs hf hx) h7 hn h1
  rwa [h2, h3, h4] at h

set_option maxHeartbeats 1000000 in
theorem walk_yes (t l u : Int) (A : Option Addr) (n c : Nat) (zs : List Int) (w : World) (hr : Row .u8 w w.heap.size A n zs) (hx : Bytes8 zs) (hn : n ≤ 40) (hf : hFits t l u) :
    Calls Try.prog 3 #[.int .i64 t, .int .i64 l, .int .i64 u, .slice A n c] w fun e w' => e = .returned (.bool true) ∧ Below w.heap.size w w' := by
  have HF := Lib.hid hf
  have HR := Lib.hid hr
  have HX := Lib.hid hx
  clear hf hr hx
  go_enter Try.func3, Try.ntmps3
  go_wp2_with (first
    | (go_at_call 6; refine (awake_any _).mono ?_; rintro e w1 ⟨rfl, hb⟩; have HB1 := Lib.hid hb; clear hb)
    | (go_at_call 7
       refine (hput_yes t l u _ HF.out).mono ?_
       rintro e w2 ⟨g2, c2, rfl, ho, hb⟩
       have HP2 := Lib.hid (own_row ho).ints
       have HB2 := Lib.hid (HB1.out.trans (hb.mono HB1.out.size))
       clear hb ho)
    | (go_at_call 8
       refine (rput_yes t l u _ HF.out).mono ?_
       rintro e w3 ⟨g3, c3, rfl, ho, hb⟩
       have HB3 := Lib.hid (HB2.out.trans (hb.mono HB2.out.size))
       have hp3 := (HP2.out.below hb).more hb.size
       have HP3 := Lib.hid hp3
       have hc2 := conv_row _ 7 c2 _ w3 hp3
       have hc3 := conv_row _ 7 c3 _ w3 (own_row ho).ints
       have HO := Lib.hid (own_none w3 w.heap.size 5)
       clear hb ho hp3)
    | (at_builtin
       refine wpList_append_row _ (o := ⟨some 53, _, _, _, _, _⟩) rfl (.const (.slice none 0 0)) (.tmp 52) 22 rfl w.heap.size 5 (.int .u8 0) 1 Try.underlying22 info5 rfl (.slice none 0 0) 0 [] rfl HO.out _ _ 7 c2 _ rfl HP3.out.v (one_cells _ _) (by omega) (by omega) HB3.out.size ?_
       intro v4 w4 hown hg hat
       have HB4 := Lib.hid (below_append HB3.out HO.out hg HB3.out.size)
       have HO4 := Lib.hid hown
       have HR4 := Lib.hid ((HR.out.below HB4.out).more HB4.out.size)
       clear hown hg hat hc2 hc3)
    | (at_builtin
       refine wpList_append_row _ (o := ⟨some 55, _, _, _, _, _⟩) rfl (.tmp 53) (.tmp 54) 22 rfl w.heap.size 5 (.int .u8 0) 1 Try.underlying22 info5 rfl v4 (0 + 7) _ rfl HO4.out _ A n c _ rfl HR4.out.v (one_cells _ _) (by omega) (by omega) HB4.out.size ?_
       intro v5 w5 hown hg hat
       obtain ⟨B5, c5, rfl⟩ := own_slice hown
       have HB5 := Lib.hid (below_append HB4.out HO4.out hg HB4.out.size)
       have HR5 : Hid (Row .u8 w5 w5.heap.size B5 (0 + 7 + n) (headOf t l u ++ zs)) := by
         have h := own_row hown
         rw [List.nil_append, ← List.map_append] at h
         exact h.ints
       clear hown hg hat)
    | (go_at_call 9
       refine (get_back t l u zs B5 _ c5 _ HF.out HX.out HR5.out (by omega) (by omega)).mono ?_
       rintro e w6 ⟨rfl, hb⟩
       have HB6 := Lib.hid (HB5.out.trans (hb.mono HB5.out.size))
       clear hb))
  go_ret
  exact ⟨rfl, HB6.out.alloc HB6.out.size _⟩

theorem walk (a0 : Int) (a1 : Int) (a2 : Int) (a3 : Option Addr) (len3 cap3 : Nat) (z3 : List Int) (w : World) (w0 : (Lit.int .i64 a0).wf = true) (w1 : (Lit.int .i64 a1).wf = true) (w2 : (Lit.int .i64 a2).wf = true) (w3 : IsRow .u8 w a3 len3 cap3 z3) :
    Calls Try.prog 3 #[.int .i64 a0, .int .i64 a1, .int .i64 a2, .slice a3 len3 cap3] w fun e w' => e = .returned (.bool true) ∧ Below w.heap.size w w' := by
  rcases Nat.lt_or_ge 40 len3 with h | h
  · exact walk_long a0 a1 a2 a3 len3 cap3 w h
  · by_cases hf : hFits a0 a1 a2
    · exact walk_yes a0 a1 a2 a3 len3 cap3 _ w w3.row w3.bytes h hf
    · exact walk_no a0 a1 a2 a3 len3 cap3 w h hf

/-! ### THE ROW's STEP: WRITTEN OUT: LEAVE IT -/
set_option maxRecDepth 100000 in
theorem lifted (os : Os) (started : os.Started) (H : Type) (enc : TypeId × Value → H) :
    ReturnsInHanded {} Try.checked os 3 .any (Rows.headPutsSpec.pre6 enc Try.prog Try.f3 Rows.headPutsRow.domain false) (Rows.headPutsSpec.post enc Try.prog Try.f3 false true false false) := by
  refine returnsInHanded_of_change (C := Try.checked) own started (by kernel_rfl) Try.func3
    (ChangeSpec.witness6 (enc := enc) (C := Try.checked) false ⟨#[], #[.int .i64 0, .int .i64 0, .int .i64 0, .slice none 0 0], []⟩ 8 (by kernel_rfl) (by kernel_rfl) (by kernel_rfl) (by kernel_rfl)) ?_
  intro W base args ds gs before hval0 hW hcnd _
  have hval : ∀ (j : Nat) t v, Try.f3.params[j]? = some t → args[j]? = some v → Value.okWide Try.prog W .any base t v := hval0
  have hW' := hW
  obtain ⟨p, q, hA0, hV, rfl, hfz, hnd⟩ := hW
  have hA : DataW.TrodAll enc Try.prog W 0 (fun _ => true) true Try.f3.params.toList args.toList ds p := hA0
  rw [Try.params3] at hA hval
  obtain ⟨v0, vs0, d0, ds0, p0, q0, hargs, rfl, rfl, h0, r0⟩ := trodAll_cons hA
  obtain ⟨v1, vs1, d1, ds1, p1, q1, rfl, rfl, rfl, h1, r1⟩ := trodAll_cons r0
  obtain ⟨v2, vs2, d2, ds2, p2, q2, rfl, rfl, rfl, h2, r2⟩ := trodAll_cons r1
  obtain ⟨v3, vs3, d3, ds3, p3, q3, rfl, rfl, rfl, h3, r3⟩ := trodAll_cons r2
  obtain ⟨rfl, rfl, rfl⟩ := trodAll_nil r3
  obtain rfl : args = #[v0, v1, v2, v3] := by cases args; simp_all
  obtain ⟨rfl, rfl⟩ := trodVars_none hV
  obtain ⟨a0, rfl, rfl, rfl, w0⟩ := open_int Try.underlying3 (hval 0 3 v0 rfl rfl) h0
  obtain ⟨a1, rfl, rfl, rfl, w1⟩ := open_int Try.underlying3 (hval 1 3 v1 rfl rfl) h1
  obtain ⟨a2, rfl, rfl, rfl, w2⟩ := open_int Try.underlying3 (hval 2 3 v2 rfl rfl) h2
  obtain ⟨a3, len3, cap3, rfl⟩ := okWide_slice Try.underlying22 (hval 3 22 v3 rfl rfl)
  have k3 := h3
  have lt3 : ∀ x ∈ p3, x.block < W.heap.size := by obtain ⟨m, hm⟩ := k3; exact DataW.trod_lt m _ _ _ hm
  obtain ⟨z3, w3⟩ : ∃ zs, IsRow .u8 W a3 len3 cap3 zs := by
    obtain ⟨fuel, hf⟩ := h3
    rcases open_ints Try.underlying22 Try.underlying5 (by kernel_rfl) hf with ⟨hcs, _⟩ | ⟨x, l, c, zs, hcs, _, hl, hm, hz, _, hcell, hwz⟩
    · simp [Value.cells] at hcs
      obtain ⟨rfl, rfl, rfl⟩ := hcs
      exact ⟨[], .inl ⟨rfl, rfl, rfl, rfl⟩⟩
    · simp [Value.cells] at hcs
      obtain ⟨rfl, rfl, rfl⟩ := hcs
      exact ⟨zs, .inr ⟨_, rfl, hl, hm, by simpa using hz, hcell, hwz⟩⟩
  clear hA0 hval0
  refine (walk a0 a1 a2 a3 len3 cap3 z3 W w0 w1 w2 w3).mono fun e W' ⟨he, bel⟩ => ?_
  subst he
  exact ⟨_, rfl, _, _, _, [], _, [], hW', trodAll_mk1 (shut_bool Try.underlying4 _), (trodAll_cons_mk (shut_int Try.underlying3 w0) (trodAll_cons_mk (shut_int Try.underlying3 w1) (trodAll_cons_mk (shut_int Try.underlying3 w2) (trodAll_cons_mk (Below.trod laidOut (by kernel_rfl) (of_decide_eq_true (by kernel_rfl)) k3 bel lt3) trodAll_mk0)))), rfl, bel.frame _, fun h => by cases h⟩

theorem over : Rows.headPutsRow.holds Try.pinned (OpenSpec.ofChange Rows.headPutsSpec) :=
  OpenClaim.holds_of_wide 3 Try.f3 rfl rfl rfl rfl rfl rfl rfl ⟨rfl, rfl, rfl, rfl, rfl⟩ rfl rfl rfl rfl rfl (by kernel_rfl) Try.func3 (by kernel_rfl)
    (of_decide_eq_true (by kernel_rfl)) (by unfold Func.isWrapper; first | (rw [if_pos (by decide +kernel)]; kernel_rfl) | (rw [if_neg (by decide +kernel)]; exact ⟨rfl, rfl⟩))
    (fun os started H enc _ => lifted os started H enc)

/-- ████ THE STATEMENT ████ -/
theorem proved : Rows.HeadPutsSaid := over
#print axioms proved
end Go.Proofs.Ytkaggkbjepggkaa.headPuts

/- Proved: for every 64-bit number, every int and either order, busbarlaw1.WordSplits returns true, and its arguments read as before. Conditions: none. -/
import Derived.Test.YtnnnaffhajljaaaSame
namespace Go.Proofs.Ytnnnaffhajljaaa.wordSplits
open Go.ChangeShapes Go.WideShapes Go.ChangeAt Go.RowKit
open Go.ChangeMaps (open_string shut_string)
set_option linter.unusedVariables false      -- a walk need not use every 'w<i>' (that an integer argument fits its kind)



theorem join_nil (l : Bool) (w : World) : Calls Try.prog 23 #[.slice none 0 0, .bool l] w fun e w' => e = .returned (.tuple #[.int .u64 0, .bool false]) ∧ w = w' :=
  join_no none 0 0 l w (.inl rfl) (by omega)

theorem walk_out (v m : Int) (l : Bool) (w : World) (h : m < 1 ∨ 4 < m) :
    Calls Try.prog 5 #[.int .u64 v, .int .i64 m, .bool l] w fun e w' => e = .returned (.bool true) ∧ Below w.heap.size w w' := by
  have H := Lib.hid h
  clear h
  go_enter Try.func5, Try.ntmps5
  go_wp2_with (first
    | (go_at_call 9; refine (awake_any _).mono ?_; rintro e w1 ⟨rfl, hb⟩; have HB := Lib.hid hb; clear hb)
    | (go_at_call 20; refine (split_out _ _ _ _ H.out).mono ?_; rintro e w2 ⟨rfl, rfl⟩)
    | (go_at_call 21; refine (refsplit_out _ _ _ _ H.out).mono ?_; rintro e w2 ⟨rfl, rfl⟩)
    | (go_at_call 22; refine (same_yes none none 0 0 0 [] _ (Row.nil _ _ _ _) (Row.nil _ _ _ _) (by omega)).mono ?_; rintro e w2 ⟨rfl, d, rfl⟩)
    | (go_at_call 23; refine (join_nil l _).mono ?_; rintro e w2 ⟨rfl, rfl⟩))
  go_ret
  exact ⟨rfl, below_drewN HB.out _⟩

theorem walk_much (v : Int) (n : Nat) (l : Bool) (w : World) (h0 : 0 ≤ v) (hv : v < 18446744073709551616) (hn1 : 1 ≤ n) (hn4 : n ≤ 4) (hf : v / 2 ^ (16 * n) ≠ 0) :
    Calls Try.prog 5 #[.int .u64 v, .int .i64 (n : Int), .bool l] w fun e w' => e = .returned (.bool true) ∧ Below w.heap.size w w' := by
  have HF := Lib.hid hf
  clear hf
  go_enter Try.func5, Try.ntmps5
  go_wp2_with (first
    | (go_at_call 9; refine (awake_any _).mono ?_; rintro e w1 ⟨rfl, hb⟩; have HB := Lib.hid hb; clear hb)
    | (go_at_call 20; refine (split_much v n l _ h0 hv hn1 hn4 HF.out).mono ?_; rintro e w2 ⟨rfl, rfl⟩)
    | (go_at_call 21
       refine (refsplit_any v n l _ h0 hv hn1 hn4).mono ?_
       rintro e w2 ⟨_, he, _, hb⟩
       obtain rfl := he HF.out
       have HB2 := Lib.hid (HB.out.trans (hb.mono HB.out.size))
       clear he hb)
    | (go_at_call 22; refine (same_yes none none 0 0 0 [] _ (Row.nil _ _ _ _) (Row.nil _ _ _ _) (by omega)).mono ?_; rintro e w2 ⟨rfl, d, rfl⟩)
    | (go_at_call 23; refine (join_nil l _).mono ?_; rintro e w2 ⟨rfl, rfl⟩))
  go_ret
  exact ⟨rfl, below_drewN HB2.out _⟩

theorem row_of_whole {w : World} {g n : Nat} {zs : List Int} (h : Whole .u16 w g 23 zs) (hl : zs.length = n) : Row .u16 w w.heap.size (some ⟨g, 0, none⟩) n zs := by
  have := h.row
  rw [hl] at this
  exact this

theorem join_back (v : Int) (n : Nat) (l : Bool) (g : Nat) (w W : World) (d : Nat) (hW : W = w.drewN d) (hw : Whole .u16 w g 23 (wds v n l)) (hn1 : 1 ≤ n) (hn4 : n ≤ 4) (hf : v / 2 ^ (16 * n) = 0) :
    Calls Try.prog 23 #[.slice (some ⟨g, 0, none⟩) n n, .bool l] W fun e w' => e = .returned (.tuple #[.int .u64 v, .bool true]) ∧ W = w' := by
  subst hW
  have hr : Row .u16 (w.drewN d) (w.drewN d).heap.size (some ⟨g, 0, none⟩) n (wds v n l) := (row_of_whole hw (wds_length v n l)).drewN d
  cases l
  · have h := join_big (some ⟨g, 0, none⟩) n n _ (w.drewN d) hr (wds_words v n false) hn1 hn4
    rwa [num_wds v n hf] at h
  · have h := join_little (some ⟨g, 0, none⟩) n n _ (w.drewN d) hr (wds_words v n true) hn1 hn4
    rwa [wds_reverse, num_wds v n hf] at h

theorem walk_fits (v : Int) (n : Nat) (l : Bool) (w : World) (h0 : 0 ≤ v) (hv : v < 18446744073709551616) (hn1 : 1 ≤ n) (hn4 : n ≤ 4) (hf : v / 2 ^ (16 * n) = 0) :
    Calls Try.prog 5 #[.int .u64 v, .int .i64 (n : Int), .bool l] w fun e w' => e = .returned (.bool true) ∧ Below w.heap.size w w' := by
  have HF := Lib.hid hf
  clear hf
  go_enter Try.func5, Try.ntmps5
  go_wp2_with (first
    | (go_at_call 9; refine (awake_any _).mono ?_; rintro e w1 ⟨rfl, hb⟩; have HB := Lib.hid hb; clear hb)
    | (go_at_call 20
       refine (split_yes v n l _ h0 hv hn1 hn4 HF.out).mono ?_
       rintro e w2 ⟨rfl, hw, hb⟩
       have HW2 := Lib.hid hw
       have HB2 := Lib.hid (HB.out.trans (hb.mono HB.out.size))
       clear hw hb)
    | (go_at_call 21
       refine (refsplit_any v n l _ h0 hv hn1 hn4).mono ?_
       rintro e w3 ⟨he, _, hw, hb⟩
       obtain rfl := he HF.out
       have HV3 := Lib.hid hw
       have HW3 := Lib.hid (HW2.out.below hb HW2.out.lt)
       have HB3 := Lib.hid (HB2.out.trans (hb.mono HB2.out.size))
       clear he hw hb)
    | (go_at_call 22; refine (same_yes _ _ n n n (wds v n l) _ (row_of_whole HW3.out (wds_length v n l)) (row_of_whole HV3.out (wds_length v n l)) (by omega)).mono ?_; rintro e w4 ⟨rfl, d, rfl⟩)
    | (go_at_call 23; refine (join_back v n l _ w3 _ d rfl HW3.out hn1 hn4 HF.out).mono ?_; rintro e w4 ⟨rfl, rfl⟩))
  go_ret
  exact ⟨rfl, below_drewN HB3.out _⟩

theorem walk (a0 : Int) (a1 : Int) (a2 : Bool) (w0 : (Lit.int .u64 a0).wf = true) (w1 : (Lit.int .i64 a1).wf = true) (w : World) :
    Calls Try.prog 5 #[.int .u64 a0, .int .i64 a1, .bool a2] w fun e w' => e = .returned (.bool true) ∧ Below w.heap.size w w' := by
  have hb := bounds_u64 w0
  by_cases h : a1 < 1 ∨ 4 < a1
  · exact walk_out a0 a1 a2 w h
  · obtain ⟨n, rfl⟩ := Int.eq_ofNat_of_zero_le (a := a1) (by omega)
    by_cases hf : a0 / 2 ^ (16 * n) = 0
    · exact walk_fits a0 n a2 w (by omega) (by omega) (by omega) (by omega) hf
    · exact walk_much a0 n a2 w (by omega) (by omega) (by omega) (by omega) hf

/-! ### THE ROW's STEP: WRITTEN OUT: LEAVE IT -/
set_option maxRecDepth 100000 in
theorem lifted (os : Os) (started : os.Started) (H : Type) (enc : TypeId × Value → H) :
    ReturnsInHanded {} Try.checked os 5 .any (Rows.wordSplitsSpec.pre6 enc Try.prog Try.f5 Rows.wordSplitsRow.domain false) (Rows.wordSplitsSpec.post enc Try.prog Try.f5 false true false false) := by
  refine returnsInHanded_of_change (C := Try.checked) own started (by kernel_rfl) Try.func5
    (ChangeSpec.witness6 (enc := enc) (C := Try.checked) false ⟨#[], #[.int .u64 0, .int .i64 0, .bool false], []⟩ 8 (by kernel_rfl) (by kernel_rfl) (by kernel_rfl) (by kernel_rfl)) ?_
  intro W base args ds gs before hval0 hW hcnd _
  have hval : ∀ (j : Nat) t v, Try.f5.params[j]? = some t → args[j]? = some v → Value.okWide Try.prog W .any base t v := hval0
  have hW' := hW
  obtain ⟨p, q, hA0, hV, rfl, hfz, hnd⟩ := hW
  have hA : DataW.TrodAll enc Try.prog W 0 (fun _ => true) true Try.f5.params.toList args.toList ds p := hA0
  rw [Try.params5] at hA hval
  obtain ⟨v0, vs0, d0, ds0, p0, q0, hargs, rfl, rfl, h0, r0⟩ := trodAll_cons hA
  obtain ⟨v1, vs1, d1, ds1, p1, q1, rfl, rfl, rfl, h1, r1⟩ := trodAll_cons r0
  obtain ⟨v2, vs2, d2, ds2, p2, q2, rfl, rfl, rfl, h2, r2⟩ := trodAll_cons r1
  obtain ⟨rfl, rfl, rfl⟩ := trodAll_nil r2
  obtain rfl : args = #[v0, v1, v2] := by cases args; simp_all
  obtain ⟨rfl, rfl⟩ := trodVars_none hV
  obtain ⟨a0, rfl, rfl, rfl, w0⟩ := open_int Try.underlying34 (hval 0 34 v0 rfl rfl) h0
  obtain ⟨a1, rfl, rfl, rfl, w1⟩ := open_int Try.underlying3 (hval 1 3 v1 rfl rfl) h1
  obtain ⟨a2, rfl, rfl, rfl⟩ := open_bool Try.underlying4 (hval 2 4 v2 rfl rfl) h2
  clear hA0 hval0
  simp only [List.append_nil] at hW'
  refine (walk a0 a1 a2 w0 w1 W).mono fun e W' ⟨he, bel⟩ => ?_
  subst he
  exact ⟨_, rfl, _, _, _, [], _, [], hW', trodAll_mk1 (shut_bool Try.underlying4 _), (trodAll_cons_mk (shut_int Try.underlying34 w0) (trodAll_cons_mk (shut_int Try.underlying3 w1) (trodAll_cons_mk (shut_bool Try.underlying4 _) trodAll_mk0))), rfl, bel.frame _, fun h => by cases h⟩

theorem over : Rows.wordSplitsRow.holds Try.pinned (OpenSpec.ofChange Rows.wordSplitsSpec) :=
  OpenClaim.holds_of_wide 5 Try.f5 rfl rfl rfl rfl rfl rfl rfl ⟨rfl, rfl, rfl, rfl, rfl⟩ rfl rfl rfl rfl rfl (by kernel_rfl) Try.func5 (by kernel_rfl)
    (of_decide_eq_true (by kernel_rfl)) (by unfold Func.isWrapper; first | (rw [if_pos (by decide +kernel)]; kernel_rfl) | (rw [if_neg (by decide +kernel)]; exact ⟨rfl, rfl⟩))
    (fun os started H enc _ => lifted os started H enc)

/-- ████ THE STATEMENT ████ -/
theorem proved : Rows.WordSplitsSaid :=
  over
#print axioms proved
end Go.Proofs.Ytnnnaffhajljaaa.wordSplits

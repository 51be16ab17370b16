/- Proved: for every slice of bytes, every word and every int, busbarlaw1.WordPuts returns true, and its arguments read as before. Conditions: none. -/
import Derived.Test.YtnnnaffhajljaaaFrame
namespace Go.Proofs.Ytnnnaffhajljaaa.wordPuts
open Go.ChangeShapes Go.WideShapes Go.ChangeAt Go.RowKit
open Go.ChangeMaps (open_string shut_string)
set_option linter.unusedVariables false



theorem walk_long (a0 : Option Addr) (len0 cap0 : Nat) (a1 a2 : Int) (w : World) (hlen : 300 < len0) :
    Calls Try.prog 3 #[.slice a0 len0 cap0, .int .u16 a1, .int .i64 a2] w fun e w' => e = .returned (.bool true) ∧ Below w.heap.size w w' := by
  go_enter Try.func3, Try.ntmps3
  go_wp2_with (go_at_call 9; refine (awake_any _).mono ?_; rintro e w1 ⟨rfl, hb⟩; have HB := Lib.hid hb; clear hb)
  go_ret
  exact ⟨rfl, HB.out⟩

set_option maxHeartbeats 1000000 in
theorem walk_short (A : Option Addr) (n c : Nat) (zs : List Int) (v a : Int) (w : World) (hr : Row .u8 w w.heap.size A n zs) (hx : Bytes8 zs) (h0 : 0 ≤ v) (h1 : v ≤ 65535) (hn : n ≤ 300) :
    Calls Try.prog 3 #[.slice A n c, .int .u16 v, .int .i64 a] w fun e w' => e = .returned (.bool true) ∧ Below w.heap.size w w' := by
  have HR := Lib.hid hr
  have HX := Lib.hid hx
  have HN := Lib.hid hr.1
  clear hr hx
  go_enter Try.func3, Try.ntmps3
  go_wp2_with (first
    | (go_at_call 9
       refine (awake_any _).mono ?_
       rintro e w1 ⟨rfl, hb⟩
       have HR1 := Lib.hid ((HR.out.below hb).more hb.size)
       have HB1 := Lib.hid hb
       clear hb)
    | (go_at_call 10
       refine (lent_all A n c zs w1 HR1.out (by omega)).mono ?_
       rintro e w2 ⟨rfl, hr2, hm2, hw, hb, hz2⟩
       have HR2 := Lib.hid hr2
       have HM2 := Lib.hid hm2
       have HW2 := Lib.hid hw
       have HB2 := Lib.hid (HB1.out.trans (hb.mono HB1.out.size))
       clear hr2 hm2 hw hb)
    | (go_at_call 11
       (with_reducible refine (get_any _ n (n + 3) zs a _ HM2.out HX.out (by omega)).mono ?_)
       rintro e w' ⟨rfl, d1, rfl⟩)
    | (go_at_call 12
       (with_reducible refine (refget_any A n c zs a _ (HR2.out.drewN _) HX.out (by omega)).mono ?_)
       rintro e w' ⟨rfl, d2, rfl⟩)
    | (go_at_call 13
       (with_reducible refine (put_all _ n (n + 3) zs v w2 _ HM2.out h0 h1 (by omega)).mono ?_)
       rintro e w3 ⟨rfl, hp, hb⟩
       have HP3 := Lib.hid hp
       have HR3 := Lib.hid ((HR2.out.below hb).more hb.size)
       have HW3 := Lib.hid (HW2.out.below hb hz2)
       have HB3 := Lib.hid (HB2.out.trans (hb.mono HB2.out.size))
       clear hp hb)
    | (go_at_call 11
       (with_reducible refine (get_last _ n (n + 2) zs v _ HN.out HP3.out HX.out (by omega) h0 h1).mono ?_)
       rintro e w' ⟨rfl, d3, rfl⟩))
  have KS : Hid (∀ W, Below w3.heap.size w3 W → (convert 22 9 (.slice (some ⟨w2.heap.size, 0, none⟩) (n + 2) (n + 2))).run Try.prog W = .ok (.string (strOfNums (zs ++ [v / 256, v % 256]))) W ∧ Below w3.heap.size w3 W) :=
    fun W h => ⟨conv_row _ _ _ _ _ ((HP3.out.below h).more h.size) (by omega), h⟩
  go_region_held (fun W => (convert 22 9 (.slice (some ⟨w2.heap.size, 0, none⟩) (n + 2) (n + 2))).run Try.prog W = .ok (.string (strOfNums (zs ++ [v / 256, v % 256]))) W ∧ Below w3.heap.size w3 W)
    (first | exact KS.out _ (below_drewN (Below.refl _ _) _).drew | exact KS.out _ hb4 | exact KS.out _ (below_drewN hb4 _))
    (first
      | (go_at_call 14
         refine (refput_kept A n c zs v w3 _ HR3.out h0 h1 (by omega) ?_).mono ?_
         · first | assumption | (exact (below_drewN (Below.refl _ _) _).drew)
         rintro e w4 ⟨g4, cap4, rfl, hc4, hb4⟩)
      | (go_at_call 15
         refine (stays_kept A n c w1.heap.size zs w3 _ HR3.out HW3.out (by omega) ?_).mono ?_
         · first | assumption | exact hb4
         rintro e w5 ⟨rfl, d5, rfl⟩))
  go_wp2
  go_ret
  exact ⟨rfl, below_drewN (HB3.out.trans (hb4.mono HB3.out.size)) _⟩

theorem walk (a0 : Option Addr) (len0 cap0 : Nat) (z0 : List Int) (a1 : Int) (a2 : Int) (w : World) (w0 : IsRow .u8 w a0 len0 cap0 z0) (w1 : (Lit.int .u16 a1).wf = true) (w2 : (Lit.int .i64 a2).wf = true) :
    Calls Try.prog 3 #[.slice a0 len0 cap0, .int .u16 a1, .int .i64 a2] w fun e w' => e = .returned (.bool true) ∧ Below w.heap.size w w' := by
  obtain ⟨h0, h1⟩ := wf_u16 w1
  rcases Nat.lt_or_ge 300 len0 with h | h
  · exact walk_long a0 len0 cap0 a1 a2 w h
  · exact walk_short a0 len0 cap0 _ a1 a2 w w0.row w0.bytes h0 h1 h

/-! ### THE ROW's STEP: WRITTEN OUT: LEAVE IT -/
set_option maxRecDepth 100000 in
theorem lifted (os : Os) (started : os.Started) (H : Type) (enc : TypeId × Value → H) :
    ReturnsInHanded {} Try.checked os 3 .any (Rows.wordPutsSpec.pre6 enc Try.prog Try.f3 Rows.wordPutsRow.domain false) (Rows.wordPutsSpec.post enc Try.prog Try.f3 false true false false) := by
  refine returnsInHanded_of_change (C := Try.checked) own started (by kernel_rfl) Try.func3
    (ChangeSpec.witness6 (enc := enc) (C := Try.checked) false ⟨#[], #[.slice none 0 0, .int .u16 0, .int .i64 0], []⟩ 8 (by kernel_rfl) (by kernel_rfl) (by kernel_rfl) (by kernel_rfl)) ?_
  intro W base args ds gs before hval0 hW hcnd _
  have hval : ∀ (j : Nat) t v, Try.f3.params[j]? = some t → args[j]? = some v → Value.okWide Try.prog W .any base t v := hval0
  have hW' := hW
  obtain ⟨p, q, hA0, hV, rfl, hfz, hnd⟩ := hW
  have hA : DataW.TrodAll enc Try.prog W 0 (fun _ => true) true Try.f3.params.toList args.toList ds p := hA0
  rw [Try.params3] at hA hval
  obtain ⟨v0, vs0, d0, ds0, p0, q0, hargs, rfl, rfl, h0, r0⟩ := trodAll_cons hA
  obtain ⟨v1, vs1, d1, ds1, p1, q1, rfl, rfl, rfl, h1, r1⟩ := trodAll_cons r0
  obtain ⟨v2, vs2, d2, ds2, p2, q2, rfl, rfl, rfl, h2, r2⟩ := trodAll_cons r1
  obtain ⟨rfl, rfl, rfl⟩ := trodAll_nil r2
  obtain rfl : args = #[v0, v1, v2] := by cases args; simp_all
  obtain ⟨rfl, rfl⟩ := trodVars_none hV
  obtain ⟨a0, len0, cap0, rfl⟩ := okWide_slice Try.underlying22 (hval 0 22 v0 rfl rfl)
  have k0 := h0
  have lt0 : ∀ x ∈ p0, x.block < W.heap.size := by obtain ⟨m, hm⟩ := k0; exact DataW.trod_lt m _ _ _ hm
  obtain ⟨z0, w0⟩ : ∃ zs, IsRow .u8 W a0 len0 cap0 zs := by
    obtain ⟨fuel, hf⟩ := h0
    rcases open_ints Try.underlying22 Try.underlying5 (by kernel_rfl) hf with ⟨hcs, _⟩ | ⟨x, l, c, zs, hcs, _, hl, hm, hz, _, hcell, hwz⟩
    · simp [Value.cells] at hcs
      obtain ⟨rfl, rfl, rfl⟩ := hcs
      exact ⟨[], .inl ⟨rfl, rfl, rfl, rfl⟩⟩
    · simp [Value.cells] at hcs
      obtain ⟨rfl, rfl, rfl⟩ := hcs
      exact ⟨zs, .inr ⟨_, rfl, hl, hm, by simpa using hz, hcell, hwz⟩⟩
  obtain ⟨a1, rfl, rfl, rfl, w1⟩ := open_int Try.underlying23 (hval 1 23 v1 rfl rfl) h1
  obtain ⟨a2, rfl, rfl, rfl, w2⟩ := open_int Try.underlying3 (hval 2 3 v2 rfl rfl) h2
  clear hA0 hval0
  refine (walk a0 len0 cap0 z0 a1 a2 W w0 w1 w2).mono fun e W' ⟨he, bel⟩ => ?_
  subst he
  exact ⟨_, rfl, _, _, _, [], _, [], hW', trodAll_mk1 (shut_bool Try.underlying4 _), (trodAll_cons_mk (Below.trod laidOut (by kernel_rfl) (of_decide_eq_true (by kernel_rfl)) k0 bel lt0) (trodAll_cons_mk (shut_int Try.underlying23 w1) (trodAll_cons_mk (shut_int Try.underlying3 w2) trodAll_mk0))), rfl, bel.frame _, fun h => by cases h⟩

theorem over : Rows.wordPutsRow.holds Try.pinned (OpenSpec.ofChange Rows.wordPutsSpec) :=
  OpenClaim.holds_of_wide 3 Try.f3 rfl rfl rfl rfl rfl rfl rfl ⟨rfl, rfl, rfl, rfl, rfl⟩ rfl rfl rfl rfl rfl (by kernel_rfl) Try.func3 (by kernel_rfl)
    (of_decide_eq_true (by kernel_rfl)) (by unfold Func.isWrapper; first | (rw [if_pos (by decide +kernel)]; kernel_rfl) | (rw [if_neg (by decide +kernel)]; exact ⟨rfl, rfl⟩))
    (fun os started H enc _ => lifted os started H enc)

/-- ████ THE STATEMENT ████ -/
theorem proved : Rows.WordPutsSaid := over
#print axioms proved
end Go.Proofs.Ytnnnaffhajljaaa.wordPuts

/- Proved: for every room, near or not, and every unit, busbarlaw10.FlowRoom returns true. Conditions: none. -/
import Derived.Test.YthmendcdfhlkkaaFlow3
import Derived.Test.YthmendcdfhlkkaaWithin
namespace Go.Proofs.Ythmendcdfhlkkaa.flowRoom
open Go.ChangeShapes Go.WideShapes Go.ChangeAt Go.RowKit
open Go.ChangeMaps (open_string shut_string)
set_option linter.unusedVariables false      -- a walk need not use every 'w<i>' (that an integer argument fits its kind)


theorem z_frame (U : Int) (h0 : 0 ≤ U) (h1 : U ≤ 255) : (headOf 0 (((253 : Nat) : Int) + 1) U ++ List.replicate 253 0).length = 260 ∧ Bytes8 (headOf 0 (((253 : Nat) : Int) + 1) U ++ List.replicate 253 0) ∧
    cE (headOf 0 (((253 : Nat) : Int) + 1) U ++ List.replicate 253 0) = 0 ∧ cM (headOf 0 (((253 : Nat) : Int) + 1) U ++ List.replicate 253 0) = 253 ∧ cN (headOf 0 (((253 : Nat) : Int) + 1) U ++ List.replicate 253 0) = 260 := by
  have hf : hFits 0 (1 + (253 : Nat)) U := ⟨by omega, by omega, by omega⟩
  have h := c_frame 0 U (List.replicate 253 0) [] 253 List.length_replicate hf
  rw [List.append_nil] at h
  rw [show (((253 : Nat) : Int) + 1) = 1 + ((253 : Nat) : Int) by omega]
  refine ⟨by rw [List.length_append, List.length_replicate]; rfl, frame_bytes _ _ _ _ hf (fun x hx => by have := List.eq_of_mem_replicate hx; omega), h.1, h.2.1, h.2.2.1⟩

set_option maxRecDepth 100000 in
set_option maxHeartbeats 4000000 in
theorem room_at (a0 : Int) (a1 : Bool) (a2 mo U : Int) (M : Nat) (w : World) (b0 : -9223372036854775808 ≤ a0 ∧ a0 ≤ 9223372036854775807) (b2 : -9223372036854775808 ≤ a2 ∧ a2 ≤ 9223372036854775807)
    (hsel : (a1 = true ∧ a0 % 600 = mo) ∨ (a1 = false ∧ a0 = mo)) (hM : (mo < 260 ∧ M = 260) ∨ (65536 < mo ∧ M = 65536) ∨ (260 ≤ mo ∧ mo ≤ 65536 ∧ mo = (M : Int))) (hU : a2 % 256 = U) :
    Calls Try.prog 9 #[.int .i64 a0, .bool a1, .int .i64 a2] w fun e w' => e = .returned (.bool true) ∧ Below w.heap.size w w' := by
  have CW0 := Lib.hid (fun W => within_any a0 600 W b0.1 b0.2 (by omega) (by omega))
  have CW2 := Lib.hid (fun W => within_any a2 256 W b2.1 b2.2 (by omega) (by omega))
  rw [hU] at CW2
  have hU0 : 0 ≤ U := by omega
  have hU1 : U ≤ 255 := by omega
  have hmo : -9223372036854775808 ≤ mo ∧ mo ≤ 9223372036854775807 := by omega
  have CN := Lib.hid (fun W => fnew_any mo M W hmo.1 hmo.2 (by split <;> split <;> omega))
  have hMb : 260 ≤ M ∧ M ≤ 65536 := by omega
  obtain ⟨R1, hR1⟩ : ∃ R1 : Array Value, R1 = ((List.replicate 253 (0 : Int)).map (Value.int .u8)).toArray := ⟨_, rfl⟩
  obtain ⟨R2, hR2⟩ : ∃ R2 : Array Value, R2 = ((List.replicate 70000 (0 : Int)).map (Value.int .u8)).toArray := ⟨_, rfl⟩
  have hmk1 : ∀ W, (Instr.makeSlice 22 (.int .i64 253) (.int .i64 253)).run Try.prog W = .ok (.slice (some ⟨W.heap.size, 0, none⟩) 253 253) (W.alloc (.cells R1 5)) := by rw [hR1]; exact make_bytes 253 (by omega)
  have hmk2 : ∀ W, (Instr.makeSlice 22 (.int .i64 70000) (.int .i64 70000)).run Try.prog W = .ok (.slice (some ⟨W.heap.size, 0, none⟩) 70000 70000) (W.alloc (.cells R2 5)) := by rw [hR2]; exact make_bytes 70000 (by omega)
  have HR1 : Hid (∀ W : World, Whole .u8 (W.alloc (.cells R1 5)) W.heap.size 5 (List.replicate 253 0)) := by intro W; rw [hR1]; exact heap_alloc_new W _
  have HR2 : Hid (∀ (W : World) (g p : Nat), ¬ GP g p W.heap.size → RowOff (W.alloc (.cells R2 5)) (GP g p) (some ⟨W.heap.size, 0, none⟩) 70000 (List.replicate 70000 0)) := by
    intro W g p h
    rw [hR2]
    have := built_off W (GP g p) (List.replicate 70000 0) h
    rwa [List.length_replicate] at this
  obtain ⟨Z, hZ⟩ : ∃ Z, headOf 0 (((253 : Nat) : Int) + 1) U ++ List.replicate 253 0 = Z := ⟨_, rfl⟩
  have HZ := Lib.hid (z_frame U hU0 hU1)
  have CR : Hid (∀ A c W, Row .u8 W W.heap.size A 253 (List.replicate 253 0) → Calls Try.prog 38 #[.agg #[.int .i64 0, .int .i64 U, .slice A 253 c]] W fun e w' => ∃ B d, e = .returned (.tuple #[.slice B 260 d, .int .i64 0]) ∧ w'.ownsRow W.heap.size 5 1 (.slice B 260 d) 260 (Z.map (Value.int .u8)) ∧ Below W.heap.size W w') := by
    rw [← hZ]
    exact fun A c W hr => rframe_yes A 253 c (List.replicate 253 0) 0 U W hr ⟨by omega, by omega, by omega⟩
  rw [hZ] at HZ
  obtain ⟨hl, hx, z0, zM, zN⟩ := HZ.out
  have ht : [] ++ Z.take 260 = Z := by rw [List.nil_append, List.take_of_length_le (by omega)]
  have HF : Hid (∀ W g p A c, FAt W g p M 0 [] false → RowOff W (GP g p) A 260 Z → 260 ≤ c → Calls Try.prog 29 #[.pointer (some ⟨g, 0, none⟩), .slice A 260 c] W fun e w' => e = .returned (.int .i64 260) ∧ FAt w' g p M 0 Z false ∧ Off (GP g p) W w') := by
    intro W g p A c hr ho hc
    have h := feed_any W g p M 0 [] false A 260 c Z 260 hr hx ho (by omega) hc (by simp; omega)
    unfold Fed at h
    rw [ht] at h
    exact h
  have HN : Hid (∀ W g p f, FAt W g p M f Z false → Calls Try.prog 31 #[.pointer (some ⟨g, 0, none⟩)] W fun e w' => ∃ B k t u f' p', e = .returned (.tuple #[.agg #[.int .i64 t, .int .i64 u, .slice B 253 k], .int .i64 0]) ∧ FAt w' g p' M f' [] false ∧ (p' = p ∨ W.heap.size ≤ p') ∧ Off (GP g p) W w') := by
    intro W g p f hr
    refine (next_any W g p M f Z false hr).mono ?_
    rintro e w' ⟨B, k, rfl, _, ⟨f', p', h1, h2⟩, ho⟩
    have e0 : gE false Z = 0 := by unfold gE; simpa using z0
    have e1 : nM false Z M = M := by unfold nM; rw [if_neg (by rw [e0]; decide)]
    have e2 : nQ false Z = [] := by unfold nQ; rw [if_neg (by rw [e0]; decide), zN, List.drop_eq_nil_of_le (by omega)]
    have e3 : nD false Z = false := by unfold nD; rw [e0]; rfl
    rw [e1, e2, e3] at h1
    rw [e0, zM]
    exact ⟨B, k, _, _, f', p', rfl, h1, h2, ho⟩
  have HF2 : Hid (∀ W g p f A c, FAt W g p M f [] false → RowOff W (GP g p) A 70000 (List.replicate 70000 0) → 70000 ≤ c → Calls Try.prog 29 #[.pointer (some ⟨g, 0, none⟩), .slice A 70000 c] W fun e w' => e = .returned (.int .i64 (M : Int)) ∧ (∃ qs, FAt w' g p M f qs false ∧ qs.length = M) ∧ Off (GP g p) W w') := by
    intro W g p f A c hr ho hc
    refine (feed_any W g p M f [] false A 70000 c _ M hr (fun x hx => by have := List.eq_of_mem_replicate hx; omega) ho (by omega) hc (by simp; omega)).mono ?_
    rintro e w' ⟨rfl, h1, h2⟩
    exact ⟨rfl, ⟨_, h1, by rw [List.nil_append, List.length_take, List.length_replicate]; omega⟩, h2⟩
  have HSEL := Lib.hid hsel
  have HMM := Lib.hid hM
  clear b0 b2 hsel hM hU hmo hR1 hR2 hZ HZ hl hx z0 zM zN ht
  rcases HSEL.out with ⟨rfl, e⟩ | ⟨rfl, rfl⟩
  all_goals
    first
      | (rw [e] at CW0; clear e)
      | skip
    rcases HMM.out with ⟨q1, rfl⟩ | ⟨q1, rfl⟩ | ⟨q1, q2, rfl⟩
    all_goals
      try (have q4 : ¬ mo < 260 := by omega)
      try (have q4 : ¬ a0 < 260 := by omega)
      try (have q4 : ¬ (M : Int) < 260 := by omega)
      try (have q5 : ¬ (65536 : Int) < (M : Int) := by omega)
      go_enter Try.func9, Try.ntmps9
      go_wp2_with (first
        | (go_at_call 24; refine (awake10_any _).mono ?_; rintro e w1 ⟨rfl, hb⟩; have HB1 := Lib.hid hb; clear hb)
        | (go_at_call 11; (with_reducible refine (CW0.out _).mono ?_); rintro e w' ⟨rfl, rfl⟩)
        | (go_at_call 25
           (with_reducible refine (CN.out _).mono ?_)
           rintro e w2 ⟨g, p, rfl, hr, hg, hp, hb⟩
           have HB2 := Lib.hid (HB1.out.trans (hb.mono HB1.out.size))
           have HF2' := Lib.hid hr
           have hr8 : Row .u8 (w2.alloc (.cells R1 5)).drew (w2.alloc (.cells R1 5)).drew.heap.size (some ⟨w2.heap.size, 0, none⟩) 253 (List.replicate 253 0) := by
             have h := (HR1.out w2).row
             rw [List.length_replicate] at h
             exact h
           have C8 := Lib.hid (CR.out _ 253 _ hr8)
           have HLT8 := Lib.hid hr.q.lt
           have HGP : Hid (w.heap.size ≤ g ∧ w.heap.size ≤ p) := by have := HB1.out.size; show _ ∧ _; omega
           clear hr hg hp hb hr8))
      go_region_law (first
        | (go_simp; go_at_call 11; (with_reducible refine (CW2.out _).mono ?_); rintro e w' ⟨rfl, rfl⟩)
        | (go_simp; go_at_call 38
           (with_reducible refine C8.out.mono ?_)
           rintro e w3 ⟨B, k, rfl, ho, hb⟩
           have HB3 : Hid (Below w.heap.size w w3) := (HB2.out.alloc HB2.out.size _).drew.trans (hb.mono (by have := HB2.out.size; simp; omega))
           have HF3 : Hid (FAt w3 g p _ 0 [] false) := (HF2'.out.below (w' := (w2.alloc (.cells R1 5)).drew) ((Below.refl _ _).alloc (Nat.le_refl _) _).drew).below hb
           have C3 := Lib.hid (HF.out w3 g p B k HF3.out (own_gp (by have := HLT8.out; simp; omega) ho) (own_capI ho))
           clear ho hb))
      all_goals
        go_wp2_with (first
          | (go_at_call 29
             (with_reducible refine C3.out.mono ?_)
             rintro e w4 ⟨rfl, hr, ho⟩
             have HB4 : Hid (Below w.heap.size w w4) := below_gp HB3.out HB3.out.size ho HGP.out.1 HGP.out.2
             have C4 := Lib.hid (HN.out w4 g p 0 hr)
             clear hr ho)
          | (go_at_call 31
             (with_reducible refine C4.out.mono ?_)
             rintro e w5 ⟨B5, k5, t5, u5, f5, p5, rfl, hr, hp5, ho⟩
             have HB5 : Hid (Below w.heap.size w w5) := below_gp HB4.out HB4.out.size ho HGP.out.1 HGP.out.2
             have hp6 : w.heap.size ≤ p5 := by have h1 := HGP.out.2; have h2 := HB4.out.size; rcases hp5 with h | h <;> omega
             have hl5 := hr.q.lt
             have hbo := HR2.out (w5.alloc (.cells #[.int .i64 t5, .int .i64 u5, .slice B5 253 k5] 64)) g p5 (by unfold GP; simp; omega)
             rw [show (w5.alloc (.cells #[.int .i64 t5, .int .i64 u5, .slice B5 253 k5] 64)).heap.size = w5.heap.size + 1 by simp] at hbo
             have C6 := Lib.hid (HF2.out ((w5.alloc (.cells #[.int .i64 t5, .int .i64 u5, .slice B5 253 k5] 64)).alloc (.cells R2 5)) g p5 f5 _ 70000 (hr.below (((Below.refl _ _).alloc (Nat.le_refl _) _).alloc (by simp) _)) hbo (Nat.le_refl _))
             have HGP5 : Hid (w.heap.size ≤ g ∧ w.heap.size ≤ p5) := ⟨HGP.out.1, hp6⟩
             have HX6 : Hid (WholeV ((w5.alloc (.cells #[.int .i64 t5, .int .i64 u5, .slice B5 253 k5] 64)).alloc (.cells R2 5)) w5.heap.size 64 [.int .i64 t5, .int .i64 u5, .slice B5 253 k5]) := by
               have h0 : WholeV (w5.alloc (.cells #[.int .i64 t5, .int .i64 u5, .slice B5 253 k5] 64)) w5.heap.size 64 [.int .i64 t5, .int .i64 u5, .slice B5 253 k5] := heap_alloc_new w5 _
               exact h0.below ((Below.refl _ _).alloc (Nat.le_refl _) _) h0.lt
             have HNE6 : Hid (¬ GP g p5 w5.heap.size) := by show ¬ _; unfold GP; omega
             clear hr ho hp5 hp6 hl5 hbo)
          | (go_at_call 29
             (with_reducible refine C6.out.mono ?_)
             rintro e w6 ⟨rfl, ⟨q6, hr, hq6⟩, ho⟩
             have hs5 := HB5.out.size
             have HB6 : Hid (Below w.heap.size w w6) := below_gp ((HB5.out.alloc hs5 _).alloc (by simp; omega) _) (by simp; omega) ho HGP5.out.1 HGP5.out.2
             have c62 : w6.cell? ⟨w5.heap.size, 2, none⟩ = some (.slice B5 253 k5) := (ho.whole HX6.out HNE6.out).cell 2
             have h9 := fheld_any w6 g p5 _ f5 q6 false hr
             rw [hq6] at h9
             have C9 := Lib.hid h9
             clear hr hq6 ho h9 hs5)
          | (go_at_call 33; (with_reducible refine C9.out.mono ?_); rintro e w9 ⟨rfl, rfl⟩))
        go_ret
        exact ⟨rfl, HB6.out⟩

theorem walk (a0 : Int) (a1 : Bool) (a2 : Int) (w0 : (Lit.int .i64 a0).wf = true) (w2 : (Lit.int .i64 a2).wf = true) (w : World) :
    Calls Try.prog 9 #[.int .i64 a0, .bool a1, .int .i64 a2] w fun e w' => e = .returned (.bool true) ∧ Below w.heap.size w w' := by
  obtain ⟨mo, hmo⟩ : ∃ mo, mo = if a1 = true then a0 % 600 else a0 := ⟨_, rfl⟩
  have hsel : (a1 = true ∧ a0 % 600 = mo) ∨ (a1 = false ∧ a0 = mo) := by
    cases a1 with
    | true => exact .inl ⟨rfl, by rw [hmo, if_pos rfl]⟩
    | false => exact .inr ⟨rfl, by rw [hmo]; rfl⟩
  exact room_at a0 a1 a2 mo (a2 % 256) (if mo < 260 then 260 else if 65536 < mo then 65536 else mo.toNat) w (bounds_i64 w0) (bounds_i64 w2) hsel (by
    by_cases h1 : mo < 260
    · rw [if_pos h1]; exact .inl ⟨h1, rfl⟩
    · rw [if_neg h1]
      by_cases h2 : 65536 < mo
      · rw [if_pos h2]; exact .inr (.inl ⟨h2, rfl⟩)
      · rw [if_neg h2]; exact .inr (.inr (by omega))) rfl

/-! ### THE ROW's STEP: WRITTEN OUT: LEAVE IT -/
set_option maxRecDepth 100000 in
theorem lifted (os : Os) (started : os.Started) (H : Type) (enc : TypeId × Value → H) :
    ReturnsInHanded {} Try.checked os 9 .any (Rows.flowRoomSpec.pre6 enc Try.prog Try.f9 Rows.flowRoomRow.domain false) (Rows.flowRoomSpec.post enc Try.prog Try.f9 false true false false) := by
  refine returnsInHanded_of_change (C := Try.checked) own started (by kernel_rfl) Try.func9
    (ChangeSpec.witness6 (enc := enc) (C := Try.checked) false ⟨#[], #[.int .i64 0, .bool false, .int .i64 0], []⟩ 8 (by kernel_rfl) (by kernel_rfl) (by kernel_rfl) (by kernel_rfl)) ?_
  intro W base args ds gs before hval0 hW hcnd _
  have hval : ∀ (j : Nat) t v, Try.f9.params[j]? = some t → args[j]? = some v → Value.okWide Try.prog W .any base t v := hval0
  have hW' := hW
  obtain ⟨p, q, hA0, hV, rfl, hfz, hnd⟩ := hW
  have hA : DataW.TrodAll enc Try.prog W 0 (fun _ => true) true Try.f9.params.toList args.toList ds p := hA0
  rw [Try.params9] at hA hval
  obtain ⟨v0, vs0, d0, ds0, p0, q0, hargs, rfl, rfl, h0, r0⟩ := trodAll_cons hA
  obtain ⟨v1, vs1, d1, ds1, p1, q1, rfl, rfl, rfl, h1, r1⟩ := trodAll_cons r0
  obtain ⟨v2, vs2, d2, ds2, p2, q2, rfl, rfl, rfl, h2, r2⟩ := trodAll_cons r1
  obtain ⟨rfl, rfl, rfl⟩ := trodAll_nil r2
  obtain rfl : args = #[v0, v1, v2] := by cases args; simp_all
  obtain ⟨rfl, rfl⟩ := trodVars_none hV
  obtain ⟨a0, rfl, rfl, rfl, w0⟩ := open_int Try.underlying3 (hval 0 3 v0 rfl rfl) h0
  obtain ⟨a1, rfl, rfl, rfl⟩ := open_bool Try.underlying4 (hval 1 4 v1 rfl rfl) h1
  obtain ⟨a2, rfl, rfl, rfl, w2⟩ := open_int Try.underlying3 (hval 2 3 v2 rfl rfl) h2
  clear hA0 hval0
  simp only [List.append_nil] at hW'
  refine (walk a0 a1 a2 w0 w2 W).mono fun e W' ⟨he, bel⟩ => ?_
  subst he
  exact ⟨_, rfl, _, _, _, [], _, [], hW', trodAll_mk1 (shut_bool Try.underlying4 _), (trodAll_cons_mk (shut_int Try.underlying3 w0) (trodAll_cons_mk (shut_bool Try.underlying4 _) (trodAll_cons_mk (shut_int Try.underlying3 w2) trodAll_mk0))), rfl, bel.frame _, fun h => by cases h⟩

theorem over : Rows.flowRoomRow.holds Try.pinned (OpenSpec.ofChange Rows.flowRoomSpec) :=
  OpenClaim.holds_of_wide 9 Try.f9 rfl rfl rfl rfl rfl rfl rfl ⟨rfl, rfl, rfl, rfl, rfl⟩ rfl rfl rfl rfl rfl (by kernel_rfl) Try.func9 (by kernel_rfl)
    (of_decide_eq_true (by kernel_rfl)) (by unfold Func.isWrapper; first | (rw [if_pos (by decide +kernel)]; kernel_rfl) | (rw [if_neg (by decide +kernel)]; exact ⟨rfl, rfl⟩))
    (fun os started H enc _ => lifted os started H enc)

/-- ████ THE STATEMENT ████ -/
theorem proved : Rows.FlowRoomSaid :=
  over
#print axioms proved
end Go.Proofs.Ythmendcdfhlkkaa.flowRoom

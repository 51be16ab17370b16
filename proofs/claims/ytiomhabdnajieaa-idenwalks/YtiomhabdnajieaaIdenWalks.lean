/- Proved: for every slice of numbers and every number, busbarlaw7.IdenWalks returns true, and its arguments read as before. Conditions: none. -/
import Derived.Test.YtiomhabdnajieaaIdenA
import Derived.Test.YtiomhabdnajieaaIndex
import Derived.Deep.AppendLies
namespace Go.Proofs.Ytiomhabdnajieaa.idenWalks
open Go.ChangeShapes Go.WideShapes Go.ChangeAt Go.RowKit
open Go.ChangeMaps (open_string shut_string)
set_option linter.unusedVariables false


set_option maxRecDepth 100000 in
set_option maxHeartbeats 4000000 in
theorem walk (a0 : Option Addr) (len0 cap0 : Nat) (z0 : List Int) (a1 : Int) (w : World) (w0 : IsRow .i64 w a0 len0 cap0 z0) (w1 : (Lit.int .i64 a1).wf = true) :
    Calls Try.prog 9 #[.slice a0 len0 cap0, .int .i64 a1] w fun e w' => e = .returned (.bool true) ∧ Below w.heap.size w w' := by
  have hle := w0.le
  have hwf := w0.wf
  have hrow := w0.row
  obtain ⟨ha0, ha1⟩ : -9223372036854775808 ≤ a1 ∧ a1 ≤ 9223372036854775807 := bounds_i64 w1
  have HO := Lib.hid (fun W hW => lobjects_any a0 len0 cap0 (z0.take len0) W hW (fun k hk => bounds_i64 (hwf k hk)) (by unfold maxLen at hle; omega))
  have HR := Lib.hid hrow
  have CW := Lib.hid (fun W => within_any a1 3 W ha0 ha1 (by omega) (by omega))
  obtain ⟨c0, hc0⟩ : ∃ c0, a1 % 3 = c0 := ⟨_, rfl⟩
  have hb0 : 0 ≤ c0 := by omega
  have hb1 : c0 ≤ 2 := by omega
  rw [hc0] at CW
  obtain ⟨L, hL⟩ : ∃ L, gOf (1 + c0) = L := ⟨_, rfl⟩
  have hix : ∀ W : World, (Instr.index 72 (.agg #[.int .i64 0, .int .i64 2, .int .i64 127, .int .i64 255]) (.int .i64 (1 + c0))).run Try.prog W = .ok (.int .i64 L) W := fun W => run_index_ints _ 4 _ _ _ W Try.underlying72 (by omega) (by omega) (by
    rw [← hL]
    rcases (show c0 = 0 ∨ c0 = 1 ∨ c0 = 2 by omega) with rfl | rfl | rfl <;> rfl)
  have hgp := gOf_pos (1 + c0) (by omega)
  rw [hL] at hgp
  have HL := Lib.hid hL
  clear hc0 hle hwf hrow w0 w1 hL
  go_enter Try.func9, Try.ntmps9
  go_wp2_with (first
    | (go_at_call 35; refine (awake7_any _).mono ?_; rintro e w1 ⟨rfl, hb⟩; have HB1 := Lib.hid hb; clear hb)
    | (go_at_call 38; refine (HO.out _ ((HR.out.below HB1.out).more HB1.out.size)).mono ?_; rintro e w2 ⟨B, m, d, os, rfl, hg, hown, hb⟩; have HG := Lib.hid hg; have HOW := Lib.hid hown; have HB2 := Lib.hid (HB1.out.trans (hb.mono HB1.out.size)); clear hb hg hown)
    | (go_at_call 23; refine (CW.out _).mono ?_; rintro e w' ⟨rfl, rfl⟩))
  have hm : os.length = m := by have := HOW.out.1; rw [obs_length] at this; omega
  subst hm
  have hcap := own2_cap HOW.out
  have h43 := HG.out.l43
  have HOL := Lib.hid (ol_of_own HOW.out)
  obtain ⟨u, hu⟩ : ∃ u, upN os L = u := ⟨_, rfl⟩
  have hu3 := HG.out.up3 L (by omega)
  have hul := upN_le os L
  rw [hu] at hu3 hul
  have HU := Lib.hid hu
  have HUG : Hid (upN os (gOf (1 + c0)) = u) := by rw [HL.out]; exact HU
  clear hu hix
  go_loopw [7, 8, 9] (fun g a i wr => ∃ (j k : Nat) (G : Option Addr) (gd : Nat) (x : Int), k ≤ j ∧ j < u ∧ i = .int .i64 (k : Int) ∧ a = .int .i64 x ∧ g = .slice G j gd ∧ Hid ((os.getD j ob0).1 = x) ∧ Hid (wr.ownsRow w2.heap.size 67 2 (.slice G j gd) j (obs (os.take j))) ∧ Hid (Below w2.heap.size w2 wr)) (fun _ _ i _ => os.length + 1 - (intOf i).toNat)
  case atStart => exact ⟨0, 0, none, 0, 0, by omega, by omega, rfl, rfl, rfl, Lib.hid HG.out.z0, Lib.hid (own2_none _ _ _), Lib.hid (Below.refl _ _)⟩
  case round =>
    obtain ⟨j, k, G, gd, x, hkj, hj, rfl, rfl, rfl, HX, HGO, HB⟩ := hrel
    have hi : (k : Int) ≤ (os.length : Int) := by omega
    have CA := Lib.hid (ianswer_at B os.length d os (1 + c0) x j u wr (HOL.out.below HB.out) hcap HG.out (by omega) HUG.out hj HX.out)
    go_wp2_with (fail)
    refine CA.out.mono ?_
    rintro e w3 ⟨B3, d3, r, nx, hr1, hr2, rfl, hnx, hown3, hb3⟩
    have HNX := Lib.hid hnx
    obtain ⟨mo, hmo⟩ : ∃ mo, decide (j + r < u) = mo := ⟨_, rfl⟩
    obtain ⟨le, hle⟩ : ∃ le, levelOf os = le := ⟨_, rfl⟩
    rw [hmo, hle]
    clear hle
    have hr00 : ((r : Int) == 0) = false := beq_eq_false_iff_ne.2 (by omega)
    have hcc : ((1 + c0 : Int) != 1 + c0) = false := by simp
    have hbx : WholeV (w3.alloc (.cells #[.int .i64 43, .int .i64 0, .slice none 0 0, .slice none 0 0, .int .i64 0, .int .i64 0, .int .u16 0, .int .u16 0, .int .u16 0, .int .i64 (1 + c0), .int .i64 le, .bool mo, .int .i64 nx, .slice B3 r d3] 27)) w3.heap.size 27 [.int .i64 43, .int .i64 0, .slice none 0 0, .slice none 0 0, .int .i64 0, .int .i64 0, .int .u16 0, .int .u16 0, .int .u16 0, .int .i64 (1 + c0), .int .i64 le, .bool mo, .int .i64 nx, .slice B3 r d3] := heap_alloc_new w3 _
    have hal : Below w3.heap.size w3 (w3.alloc (.cells #[.int .i64 43, .int .i64 0, .slice none 0 0, .slice none 0 0, .int .i64 0, .int .i64 0, .int .u16 0, .int .u16 0, .int .u16 0, .int .i64 (1 + c0), .int .i64 le, .bool mo, .int .i64 nx, .slice B3 r d3] 27)) := (Below.refl _ _).alloc (Nat.le_refl _) _
    have HB4 := Lib.hid (hb3.trans (hal.mono hb3.size))
    have HO4 := Lib.hid (ol_of_own (own2_keep hown3 hal))
    have HG4 := Lib.hid (own2_keep HGO.out HB4.out)
    have HBA := Lib.hid (HB.out.trans (HB4.out.mono HB.out.size))
    have HF := Lib.hid (own2_far HGO.out w3.heap.size hb3.size)
    have HBX := Lib.hid hbx
    clear hnx hown3 hb3 hal hbx
    by_cases hmore : j + r < u
    · obtain rfl : mo = true := by rw [← hmo]; exact decide_eq_true hmore
      clear hmo
      go_wp2_with (at_builtin
                   refine wpList_append_obs _ (o := ⟨some 59, _, _, _, _, _⟩) rfl (.tmp 56) (.tmp 58) rfl w2.heap.size (.slice G j gd) j (os.take j) rfl HG4.out _ B3 r d3 ((os.drop j).take r) rfl HO4.out (by omega) HBA.out.size ?_
                   intro v2 w5 hown hg
                   obtain ⟨G2, gd2, rfl⟩ := own2_slice hown
                   have HO5 := Lib.hid hown
                   have HB5 := Lib.hid (below_append2 HBA.out HG4.out hg HBA.out.size)
                   have hc11 := (hg.cell_far ⟨w3.heap.size, 11, none⟩ HBX.out.lt HF.out).trans (HBX.out.cell 11)
                   have hc12 := (hg.cell_far ⟨w3.heap.size, 12, none⟩ HBX.out.lt HF.out).trans (HBX.out.cell 12)
                   simp at hc11 hc12
                   clear hown hg)
      go_roundw
      case rel => exact ⟨j + r, k + 1, G2, gd2, nx, by omega, hmore, by go_num, rfl, rfl, Lib.hid (HNX.out hmore), Lib.hid (by rw [List.take_add]; exact HO5.out), HB5⟩
      case measure => simp [intOf]; omega
    · obtain rfl : mo = false := by rw [← hmo]; exact decide_eq_false hmore
      clear hmo
      go_wp2_with (at_builtin
                   refine wpList_append_obs _ (o := ⟨some 59, _, _, _, _, _⟩) rfl (.tmp 56) (.tmp 58) rfl w2.heap.size (.slice G j gd) j (os.take j) rfl HG4.out _ B3 r d3 ((os.drop j).take r) rfl HO4.out (by omega) HBA.out.size ?_
                   intro v2 w5 hown hg
                   obtain ⟨G2, gd2, rfl⟩ := own2_slice hown
                   have HO5 := Lib.hid hown
                   have HB5 := Lib.hid (below_append2 HBA.out HG4.out hg HBA.out.size)
                   have hc11 := (hg.cell_far ⟨w3.heap.size, 11, none⟩ HBX.out.lt HF.out).trans (HBX.out.cell 11)
                   have hc12 := (hg.cell_far ⟨w3.heap.size, 12, none⟩ HBX.out.lt HF.out).trans (HBX.out.cell 12)
                   simp at hc11 hc12
                   clear hown hg)
      have hju : j + r = u := by omega
      have HG5 : Hid (w5.ownsRow w2.heap.size 67 2 (.slice G2 (j + r) gd2) (j + r) (obs (os.take (j + r)))) := Lib.hid (by rw [List.take_add]; exact HO5.out)
      rw [hju] at HG5
      rw [hju]
      have HGL := Lib.hid (ol_of_own HG5.out)
      have HL5 := Lib.hid (HOL.out.below HB5.out)
      have HBF := Lib.hid (HB2.out.trans (HB5.out.mono HB2.out.size))
      clear hju HG5 HO5 hc11 hc12 hmore hr1 hr2 HNX HF HBX HG4 HO4 HB4 HBA hcc hr00 hkj hj hi
      go_loopw [12, 13] (fun g i wr => ∃ (k q : Nat) (G : Option Addr) (gd : Nat), k ≤ os.length ∧ i = .int .i64 (k : Int) ∧ g = .slice G q gd ∧ q ≤ k ∧ Hid ((k ≤ u → q = k) ∧ (u ≤ k → q = u)) ∧ Hid (wr.ownsRow w5.heap.size 67 2 (.slice G q gd) q (obs (os.take q))) ∧ Hid (Below w5.heap.size w5 wr)) (fun _ i _ => os.length - (intOf i).toNat)
      case atStart => exact ⟨0, 0, none, 0, by omega, rfl, rfl, by omega, Lib.hid ⟨fun _ => rfl, fun _ => by omega⟩, Lib.hid (own2_none _ _ _), Lib.hid (Below.refl _ _)⟩
      case round =>
        obtain ⟨k, q, Q, qd, hk, rfl, rfl, hqk, HQ, HQO, HBQ⟩ := hrel
        by_cases hlt : k < os.length
        · have hi : (k : Int) < (os.length : Int) := by omega
          obtain ⟨b, off, hAA, hb, hc1, hc2⟩ := (HL5.out.below HBQ.out).at_ k hlt
          subst hAA
          have hin := HG.out.in_ L k hlt
          rw [HU.out] at hin
          obtain ⟨y, hy⟩ : ∃ y, (os.getD k ob0).1 = y := ⟨_, rfl⟩
          obtain ⟨S, hS⟩ : ∃ S, (os.getD k ob0).2 = S := ⟨_, rfl⟩
          rw [hy] at hc1 hin
          rw [hS] at hc2
          have hpair : os.getD k ob0 = (y, S) := by rw [← hy, ← hS]
          by_cases hku : k < u
          · have hyL := hin.2 hku
            obtain rfl : q = k := HQ.out.1 (by omega)
            have hal := (Below.refl wr.heap.size wr).alloc (Nat.le_refl _) (.cells #[.int .i64 y, .string S] 67)
            have HQ2 := Lib.hid (own2_keep HQO.out hal)
            have HN2 := Lib.hid (ol_of_own (own2_new wr [(y, S)] 67 1 rfl (by omega)))
            have HBQ2 := Lib.hid (HBQ.out.trans (hal.mono HBQ.out.size))
            have HTK : Hid (os.take (q + 1) = os.take q ++ [(y, S)]) := Lib.hid (by rw [List.take_succ_eq_append_getElem hlt, ← hpair]; simp [List.getD_eq_getElem?_getD, hlt])
            clear hal hin hy hS hpair
            go_wp2_with (at_builtin
                         refine wpList_append_obs _ (o := ⟨some 84, _, _, _, _, _⟩) rfl (.tmp 78) (.tmp 83) rfl w5.heap.size (.slice Q q qd) q (os.take q) rfl HQ2.out _ (some ⟨wr.heap.size, 0, none⟩) 1 1 [(y, S)] rfl HN2.out (by omega) HBQ2.out.size ?_
                         intro v2 w6 hown hg
                         obtain ⟨Q2, qd2, rfl⟩ := own2_slice hown
                         have HO6 := Lib.hid hown
                         have HB6 := Lib.hid (below_append2 HBQ2.out HQ2.out hg HBQ2.out.size)
                         clear hown hg)
            go_roundw
            case rel => exact ⟨q + 1, q + 1, Q2, qd2, by omega, by go_num, rfl, by omega, Lib.hid ⟨fun _ => rfl, fun _ => by omega⟩, Lib.hid (by rw [HTK.out]; exact HO6.out), HB6⟩
            case measure => simp [intOf]; omega
          · have hyL : ¬ y ≤ L := fun h => hku (hin.1 h)
            clear hin hy hS hpair
            go_wp2
            go_roundw
            case rel => exact ⟨k + 1, q, Q, qd, by omega, by go_num, rfl, by omega, Lib.hid ⟨fun _ => by omega, fun _ => HQ.out.2 (by omega)⟩, HQO, HBQ⟩
            case measure => simp [intOf]; omega
        · have hi : ¬ (k : Int) < (os.length : Int) := by omega
          have hi2 : decide (k < os.length) = false := decide_eq_false hlt
          obtain rfl : u = q := (HQ.out.2 (by omega)).symm
          have CS := Lib.hid (lsameObjs G2 Q u gd2 qd (os.take u) wr (HGL.out.below HBQ.out) (ol_of_own HQO.out) (by omega))
          go_wp2_with (go_at_call 43; refine CS.out.mono ?_; rintro e w' ⟨rfl, e, rfl⟩)
          go_ret
          exact ⟨rfl, below_drewN (HBF.out.trans (HBQ.out.mono HBF.out.size)) _⟩

/-! ### THE ROW's STEP: WRITTEN OUT: LEAVE IT -/
set_option maxRecDepth 100000 in
theorem lifted (os : Os) (started : os.Started) (H : Type) (enc : TypeId × Value → H) :
    ReturnsInHanded {} Try.checked os 9 .any (Rows.idenWalksSpec.pre6 enc Try.prog Try.f9 Rows.idenWalksRow.domain false) (Rows.idenWalksSpec.post enc Try.prog Try.f9 false true false false) := by
  refine returnsInHanded_of_change (C := Try.checked) own started (by kernel_rfl) Try.func9
    (ChangeSpec.witness6 (enc := enc) (C := Try.checked) false ⟨#[], #[.slice none 0 0, .int .i64 0], []⟩ 8 (by kernel_rfl) (by kernel_rfl) (by kernel_rfl) (by kernel_rfl)) ?_
  intro W base args ds gs before hval0 hW hcnd _
  have hval : ∀ (j : Nat) t v, Try.f9.params[j]? = some t → args[j]? = some v → Value.okWide Try.prog W .any base t v := hval0
  have hW' := hW
  obtain ⟨p, q, hA0, hV, rfl, hfz, hnd⟩ := hW
  have hA : DataW.TrodAll enc Try.prog W 0 (fun _ => true) true Try.f9.params.toList args.toList ds p := hA0
  rw [Try.params9] at hA hval
  obtain ⟨v0, vs0, d0, ds0, p0, q0, hargs, rfl, rfl, h0, r0⟩ := trodAll_cons hA
  obtain ⟨v1, vs1, d1, ds1, p1, q1, rfl, rfl, rfl, h1, r1⟩ := trodAll_cons r0
  obtain ⟨rfl, rfl, rfl⟩ := trodAll_nil r1
  obtain rfl : args = #[v0, v1] := by cases args; simp_all
  obtain ⟨rfl, rfl⟩ := trodVars_none hV
  obtain ⟨a0, len0, cap0, rfl⟩ := okWide_slice Try.underlying49 (hval 0 49 v0 rfl rfl)
  have k0 := h0
  have lt0 : ∀ x ∈ p0, x.block < W.heap.size := by obtain ⟨m, hm⟩ := k0; exact DataW.trod_lt m _ _ _ hm
  obtain ⟨z0, w0⟩ : ∃ zs, IsRow .i64 W a0 len0 cap0 zs := by
    obtain ⟨fuel, hf⟩ := h0
    rcases open_ints Try.underlying49 Try.underlying3 (by kernel_rfl) hf with ⟨hcs, _⟩ | ⟨x, l, c, zs, hcs, _, hl, hm, hz, _, hcell, hwz⟩
    · simp [Value.cells] at hcs
      obtain ⟨rfl, rfl, rfl⟩ := hcs
      exact ⟨[], .inl ⟨rfl, rfl, rfl, rfl⟩⟩
    · simp [Value.cells] at hcs
      obtain ⟨rfl, rfl, rfl⟩ := hcs
      exact ⟨zs, .inr ⟨_, rfl, hl, hm, by simpa using hz, hcell, hwz⟩⟩
  obtain ⟨a1, rfl, rfl, rfl, w1⟩ := open_int Try.underlying3 (hval 1 3 v1 rfl rfl) h1
  clear hA0 hval0
  refine (walk a0 len0 cap0 z0 a1 W w0 w1).mono fun e W' ⟨he, bel⟩ => ?_
  subst he
  exact ⟨_, rfl, _, _, _, [], _, [], hW', trodAll_mk1 (shut_bool Try.underlying4 _), (trodAll_cons_mk (Below.trod laidOut (by kernel_rfl) (of_decide_eq_true (by kernel_rfl)) k0 bel lt0) (trodAll_cons_mk (shut_int Try.underlying3 w1) trodAll_mk0)), rfl, bel.frame _, fun h => by cases h⟩

theorem over : Rows.idenWalksRow.holds Try.pinned (OpenSpec.ofChange Rows.idenWalksSpec) :=
  OpenClaim.holds_of_wide 9 Try.f9 rfl rfl rfl rfl rfl rfl rfl ⟨rfl, rfl, rfl, rfl, rfl⟩ rfl rfl rfl rfl rfl (by kernel_rfl) Try.func9 (by kernel_rfl)
    (of_decide_eq_true (by kernel_rfl)) (by unfold Func.isWrapper; first | (rw [if_pos (by decide +kernel)]; kernel_rfl) | (rw [if_neg (by decide +kernel)]; exact ⟨rfl, rfl⟩))
    (fun os started H enc _ => lifted os started H enc)

/-- ████ THE STATEMENT ████ -/
theorem proved : Rows.IdenWalksSaid := over
#print axioms proved
end Go.Proofs.Ytiomhabdnajieaa.idenWalks

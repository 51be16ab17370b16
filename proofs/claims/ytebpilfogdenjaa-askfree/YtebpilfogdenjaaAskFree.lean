/- Proved: for every slice of bools, every int and every byte, busbarlaw5.AskFree returns true, and its argument reads as before. Conditions: none. -/
import Derived.Test.YtebpilfogdenjaaAwake5
import Derived.Test.YtebpilfogdenjaaPBytes
import Derived.Test.YtebpilfogdenjaaPFree
import Derived.Test.YtebpilfogdenjaaAskSame
import Derived.Test.YtebpilfogdenjaaRefMore
import Derived.Test.YtebpilfogdenjaaLAsk
namespace Go.Proofs.Ytebpilfogdenjaa.askFree
open Go.ChangeShapes Go.WideShapes Go.ChangeAt Go.RowKit
open Go.ChangeMaps (open_string shut_string)
set_option linter.unusedVariables false


theorem walk_none (A : Option Addr) (c : Nat) (t x : Int) (w : World) :
    Calls Try.prog 5 #[.slice A 0 c, .int .i64 t, .int .u8 x] w fun e w' => e = .returned (.bool true) ∧ Below w.heap.size w w' := by
  go_enter Try.func5, Try.ntmps5
  go_wp2_with (go_at_call 8; refine (awake_any _).mono ?_; rintro e w1 ⟨rfl, hb⟩; have HB := Lib.hid hb; clear hb)
  go_ret
  exact ⟨rfl, HB.out⟩
theorem walk_many (A : Option Addr) (n c : Nat) (t x : Int) (w : World) (hn : 100 < n) :
    Calls Try.prog 5 #[.slice A n c, .int .i64 t, .int .u8 x] w fun e w' => e = .returned (.bool true) ∧ Below w.heap.size w w' := by
  have h1 : ¬ (n : Int) < 1 := by omega
  have h2 : (100 : Int) < (n : Int) := by omega
  go_enter Try.func5, Try.ntmps5
  go_wp2_with (go_at_call 8; refine (awake_any _).mono ?_; rintro e w1 ⟨rfl, hb⟩; have HB := Lib.hid hb; clear hb)
  go_ret
  exact ⟨rfl, HB.out⟩

set_option maxRecDepth 100000 in
set_option maxHeartbeats 1000000 in
theorem walk_free (D : Option Addr) (n c : Nat) (bs : List Bool) (t x : Int) (w : World) (hr : BRow w w.heap.size D n bs) (n0 : 1 ≤ n) (n1 : n ≤ 100) (t0 : -9223372036854775808 ≤ t) (t1 : t ≤ 9223372036854775807) (x0 : 0 ≤ x) (x1 : x ≤ 255) :
    Calls Try.prog 5 #[.slice D n c, .int .i64 t, .int .u8 x] w fun e w' => e = .returned (.bool true) ∧ Below w.heap.size w w' := by
  have h1 : ¬ (n : Int) < 1 := by omega
  have h2 : ¬ (100 : Int) < (n : Int) := by omega
  obtain ⟨A, hA⟩ : ∃ A, t % 65536 = A := ⟨_, rfl⟩
  have a0 : 0 ≤ A := by omega
  have a1 : A ≤ 65535 := by omega
  have hlen := hr.1
  have hrt : rightP 15 A n 0 0 0 bs.length 0 0 0 0 0 := by
    have hm : kMostW 15 = 1968 := rfl
    refine ⟨rfl, ?_, ⟨a0, a1⟩, by omega, ?_⟩
    · unfold plainP; omega
    · unfold fitsP; omega
  have hwd : Wide A n 0 0 0 0 0 0 0 := wide_of (by omega) (by omega) (by omega) (by omega) (by omega) (by omega) (by omega) (by omega) (by omega)
  have hst : Free A bs (enc 15 A n 0 0 0 bs [] 0 0 0 0) := by
    rw [← hlen]
    exact free_start A bs (enc_bytes A bs.length 0 0 0 bs [] 0 0 0 0 15 (by rw [hlen]; rw [hlen] at hrt; exact hrt) (by rw [hlen]; exact hwd) words_nil)
  have HA := Lib.hid hA
  have HR := Lib.hid hr
  have HLn := Lib.hid hlen
  have HRt := Lib.hid hrt
  have HWd := Lib.hid hwd
  have HSt := Lib.hid hst
  clear hA hr hlen hrt hwd hst
  go_enter Try.func5, Try.ntmps5
  go_wp2_with fail
  refine (awake_any _).mono ?_
  rintro e w1 ⟨rfl, hb1⟩
  have HB1 := Lib.hid hb1
  clear hb1
  go_wp2_with fail
  refine (within_lit t 65536 A _ HA.out t0 t1 (by omega) (by omega)).mono ?_
  rintro e w' ⟨rfl, rfl⟩
  have h2' : WholeV (w1.alloc (.cells #[.int .i64 15, .int .i64 A, .int .i64 (n : Int), .int .u16 0, .int .u16 0, .int .u16 0, .slice D n c, .slice none 0 0, .int .i64 0, .int .i64 0, .int .i64 0, .int .i64 0] 30)) w1.heap.size 30 [.int .i64 15, .int .i64 A, .int .i64 (n : Int), .int .u16 0, .int .u16 0, .int .u16 0, .slice D n c, .slice none 0 0, .int .i64 0, .int .i64 0, .int .i64 0, .int .i64 0] := heap_alloc_new w1 _
  have H2 := Lib.hid h2'
  have HB2 := Lib.hid (HB1.out.alloc HB1.out.size (.cells #[.int .i64 15, .int .i64 A, .int .i64 (n : Int), .int .u16 0, .int .u16 0, .int .u16 0, .slice D n c, .slice none 0 0, .int .i64 0, .int .i64 0, .int .i64 0, .int .i64 0] 30))
  have hbr := (HR.out.below HB2.out).more HB2.out.size
  have HBR := Lib.hid hbr
  clear h2' hbr
  go_wp2_with fail
  refine (pbytes_yes 15 A n 0 0 0 bs [] 0 0 0 0 D none n 0 c 0 _ HWd.out (by have h := HRt.out; rw [HLn.out] at h; exact h) HBR.out (Row.nil _ _ _ _) words_nil).mono ?_
  rintro e w3 ⟨C, cap, rfl, ho, hb3⟩
  have HB3 := Lib.hid (HB2.out.trans (hb3.mono HB2.out.size))
  have H3 := Lib.hid (H2.out.below hb3 H2.out.lt)
  clear hb3
  generalize hE : enc 15 A n 0 0 0 bs [] 0 0 0 0 = E at *
  clear hE
  obtain ⟨L, hLe⟩ : ∃ L, E.length = L := ⟨_, rfl⟩
  rw [hLe] at ho ⊢
  have hLn : L = 6 + nb n := by rw [← hLe, HSt.out.1, HLn.out]
  have hnb : 1 ≤ nb n ∧ nb n ≤ 13 := by unfold nb; omega
  have l0 : 7 ≤ L := by omega
  have l1 : L ≤ 100 := by omega
  have HL := Lib.hid hLn
  have HR3 := Lib.hid (own_row ho)
  have HO0 := Lib.hid (own_none w3 w.heap.size 5)
  have hl7 : ¬ (L : Int) < 7 := by omega
  clear ho hLe hLn hnb
  go_wp2_with (first
    | (at_builtin
       refine wpList_append_row _ (o := ⟨some 46, _, _, _, _, _⟩) rfl (.const (.slice none 0 0)) (.tmp 45) 22 rfl w.heap.size 5 (.int .u8 0) 1 Try.underlying22 info5 rfl (.slice none 0 0) 0 [] rfl HO0.out _ _ L cap _ rfl HR3.out (one_cells _ _) (by omega) (by omega) HB3.out.size ?_
       intro v4 w4 hown hg4 hat
       rw [Nat.zero_add, List.nil_append] at hown
       obtain ⟨g, c4, rfl, hgb, hrow⟩ := row_of_own hown (by omega)
       have HB4 := Lib.hid (below_append HB3.out HO0.out hg4 HB3.out.size)
       have HO4 := Lib.hid hown
       have H4 := Lib.hid (show WholeV w4 w1.heap.size 30 _ from (hg4.block _ H3.out.lt (by simp [Value.ownBlock])).trans H3.out)
       have hgn : w3.heap.size ≤ g := by
         rcases hat with h | h
         · simp [Value.ownBlock] at h
         · simp [Value.ownBlock] at h; omega
       have hcap := own_cap hown
       clear hown hg4 hat hrow))
  go_loopw [11] (fun i wr => ∃ (j : Nat) (zs : List Int), i = .int .i64 (j : Int) ∧ Hid ((n % 8 = 0 ∧ j = 0) ∨ (0 < n % 8 ∧ n % 8 ≤ j ∧ j ≤ 8)) ∧ Hid (Free A bs zs) ∧ Hid (wr.ownsRow w3.heap.size 5 1 (.slice (some ⟨g, 0, none⟩) L c4) L (zs.map (Value.int .u8))) ∧ Hid (WholeV wr w1.heap.size 30 [.int .i64 15, .int .i64 A, .int .i64 (n : Int), .int .u16 0, .int .u16 0, .int .u16 0, .slice D n c, .slice none 0 0, .int .i64 0, .int .i64 0, .int .i64 0, .int .i64 0]) ∧ Hid (Below w.heap.size w wr)) (fun i _ => 8 - (intOf i).toNat)
  case atStart => exact ⟨n % 8, E, by go_num, (by show _ ∨ _; omega), HSt, own_raise HO4.out hgn, H4, HB4⟩
  case round =>
    obtain ⟨j, zs, rfl, HJ, HF, HO, HW, HB⟩ := hrel
    have hlt1 : w1.heap.size < w3.heap.size := H3.out.lt
    by_cases hj : 0 < j ∧ j < 8
    · have hj0 : (0 : Int) < (j : Int) := by omega
      have hj8 : (j : Int) < 8 := by omega
      have hjr : 0 < n % 8 ∧ n % 8 ≤ j := by have := HJ.out; omega
      have HJR := Lib.hid hjr
      clear hjr
      go_wp2_with fail
      refine (set_free A bs zs _ L c4 j _ _ _ HF.out (own_row HO.out).ints (by rw [HLn.out]; exact HL.out) (by omega) (by rw [HLn.out]; exact HJR.out.1) (by rw [HLn.out]; exact HJR.out.2) hj.2 (by omega)).mono ?_
      rintro e w6 ⟨B6, d6, ys, rfl, hr6, hf6, hys, hb6⟩
      obtain ⟨b6, off6, rfl, hb6', hc6⟩ := hr6.2 (by omega)
      have hcl := hc6 (L - 1) (by omega)
      obtain ⟨z, hz⟩ : ∃ z, ys.getD (L - 1) 0 = z := ⟨_, rfl⟩
      rw [hz] at hcl hys
      have hO6 := own_keep HO.out hb6
      obtain ⟨g', cc', hv, _, hrow, hfr, hset⟩ := own_open hO6 (by omega)
      injection hv with e1 e2 e3
      injection e1 with e1
      injection e1 with e1
      subst e1 e3
      have hl1 : L - 1 < L := by omega
      obtain ⟨_, hrc⟩ := hrow
      obtain ⟨b', off', e', _, hcell⟩ := hrc (by omega)
      injection e' with e'
      injection e' with e1 e2
      subst e1 e2
      have hcg := hcell (L - 1) hl1
      rw [Nat.zero_add, List.getElem?_map, List.getElem?_eq_getElem (by rw [HF.out.1, HLn.out, ← HL.out]; exact hl1), Option.map_some] at hcg
      have hfg := hfr (L - 1)
      have ht : ((L : Int) - 1).toNat = L - 1 := by omega
      have HO7 := Lib.hid (hset (L - 1) (.int .u8 z))
      have HB6 := Lib.hid (HB.out.trans (hb6.mono HB.out.size))
      have HW6 := Lib.hid (HW.out.below hb6 HW.out.lt)
      have HF6 := Lib.hid hf6
      have HYS := Lib.hid hys
      have hgg : w3.heap.size ≤ g := hgn
      have hi0 : 0 ≤ (L : Int) - 1 := by omega
      have hi1 : (L : Int) - 1 < (L : Int) := by omega
      clear hr6 hf6 hys hb6 hc6 hz hO6 hfr hset hcell hrc
      go_wp2
      go_roundw
      case rel =>
        refine ⟨j + 1, ys, by go_num, (by have := HJ.out; show _ ∨ _; omega), HF6, ?_, ?_, ?_⟩
        · have h := HO7.out
          rw [HYS.out, List.map_set]
          exact h
        · exact HW6.out.below ((Below.refl (w1.heap.size + 1) _).setCell (p := ⟨g, L - 1, none⟩) (by show _ ≤ g; omega) _) (Nat.lt_succ_self _)
        · exact HB6.out.setCell (p := ⟨g, L - 1, none⟩) (by show _ ≤ g; have := HB3.out.size; omega) _
      case measure => simp [intOf]; omega
    · have hj' : j = 0 ∨ j = 8 := by have := HJ.out; omega
      have hps : parseOf zs L = (⟨15, A, n, 0, 0, 0, bs, [], 0, 0, 0, 0⟩, 0) := by
        have h := free_parse HF.out L (by rw [HLn.out]; exact HL.out) (by have h := HRt.out; rw [← HLn.out] at h; exact h)
        rw [HLn.out] at h
        exact h
      have HPS := Lib.hid hps
      clear hps
      rcases hj' with rfl | rfl
      all_goals
        go_wp2_with fail
        refine (parse_lit zs L c4 _ _ 15 A n 0 0 0 bs [] 0 0 0 0 0 HPS.out (own_row HO.out).ints HF.out.2.1 (by omega) hcap).mono ?_
        rintro e w7 ⟨BP, WP, bp, wp, rfl, hob, how, hb7⟩
        rw [HLn.out] at hob ⊢
        have h7 := HW.out.below hb7 HW.out.lt
        obtain ⟨hq0, hq1, hq2, hq3, hq4, hq5, hq6, hq7, hq8, hq9, hq10, hq11⟩ := cells12 h7
        have hz7 : w1.heap.size < w7.heap.size := h7.lt
        have HB7 := Lib.hid (HB.out.trans (hb7.mono HB.out.size))
        have HB8 := Lib.hid (HB7.out.alloc HB7.out.size (.cells #[.int .i64 15, .int .i64 A, .int .i64 (n : Int), .int .u16 0, .int .u16 0, .int .u16 0, .slice BP n bp, .slice WP 0 wp, .int .i64 0, .int .i64 0, .int .i64 0, .int .i64 0] 30))
        have hk8 : Below w7.heap.size w7 (w7.alloc (.cells #[.int .i64 15, .int .i64 A, .int .i64 (n : Int), .int .u16 0, .int .u16 0, .int .u16 0, .slice BP n bp, .slice WP 0 wp, .int .i64 0, .int .i64 0, .int .i64 0, .int .i64 0] 30)) := (Below.refl _ _).alloc (Nat.le_refl _) _
        have HP8 := Lib.hid (((own_row hob).bools.below hk8).more hk8.size)
        have HD8 := Lib.hid ((HR.out.below HB8.out).more HB8.out.size)
        clear hob how hb7 h7 hk8
        go_wp2_with fail
        refine (sameask_yes 15 A n 0 0 0 n 0 0 0 0 0 BP WP D none bp wp c 0 bs [] _ HP8.out HD8.out (Row.nil _ _ _ _) (Row.nil _ _ _ _) (by omega) (by omega)).mono ?_
        rintro e w9 ⟨rfl, hb9⟩
        have HB9 := Lib.hid (HB8.out.trans (hb9.mono HB8.out.size))
        clear hb9
        go_wp2
        go_ret
        exact ⟨rfl, HB9.out⟩

theorem walk (a0 : Option Addr) (len0 cap0 : Nat) (z0 : List Bool) (a1 : Int) (a2 : Int) (w : World) (w0 : IsBools w a0 len0 cap0 z0) (w1 : (Lit.int .i64 a1).wf = true) (w2 : (Lit.int .u8 a2).wf = true) :
    Calls Try.prog 5 #[.slice a0 len0 cap0, .int .i64 a1, .int .u8 a2] w fun e w' => e = .returned (.bool true) ∧ Below w.heap.size w w' := by
  have b1 := bounds_i64 w1
  have b2 := bounds_u8 w2
  rcases Nat.eq_zero_or_pos len0 with rfl | h0
  · exact walk_none a0 cap0 a1 a2 w
  · rcases Nat.lt_or_ge 100 len0 with h | h
    · exact walk_many a0 len0 cap0 a1 a2 w h
    · exact walk_free a0 len0 cap0 _ a1 a2 w w0.row h0 h (by omega) (by omega) (by omega) (by omega)

/-! ### THE ROW's STEP: WRITTEN OUT: LEAVE IT -/
set_option maxRecDepth 100000 in
theorem lifted (os : Os) (started : os.Started) (H : Type) (enc : TypeId × Value → H) :
    ReturnsInHanded {} Try.checked os 5 .any (Rows.askFreeSpec.pre6 enc Try.prog Try.f5 Rows.askFreeRow.domain false) (Rows.askFreeSpec.post enc Try.prog Try.f5 false true false false) := by
  refine returnsInHanded_of_change (C := Try.checked) own started (by kernel_rfl) Try.func5
    (ChangeSpec.witness6 (enc := enc) (C := Try.checked) false ⟨#[], #[.slice none 0 0, .int .i64 0, .int .u8 0], []⟩ 8 (by kernel_rfl) (by kernel_rfl) (by kernel_rfl) (by kernel_rfl)) ?_
  intro W base args ds gs before hval0 hW hcnd _
  have hval : ∀ (j : Nat) t v, Try.f5.params[j]? = some t → args[j]? = some v → Value.okWide Try.prog W .any base t v := hval0
  have hW' := hW
  obtain ⟨p, q, hA0, hV, rfl, hfz, hnd⟩ := hW
  have hA : DataW.TrodAll enc Try.prog W 0 (fun _ => true) true Try.f5.params.toList args.toList ds p := hA0
  rw [Try.params5] at hA hval
  obtain ⟨v0, vs0, d0, ds0, p0, q0, hargs, rfl, rfl, h0, r0⟩ := trodAll_cons hA
  obtain ⟨v1, vs1, d1, ds1, p1, q1, rfl, rfl, rfl, h1, r1⟩ := trodAll_cons r0
  obtain ⟨v2, vs2, d2, ds2, p2, q2, rfl, rfl, rfl, h2, r2⟩ := trodAll_cons r1
  obtain ⟨rfl, rfl, rfl⟩ := trodAll_nil r2
  obtain rfl : args = #[v0, v1, v2] := by cases args; simp_all
  obtain ⟨rfl, rfl⟩ := trodVars_none hV
  obtain ⟨a0, len0, cap0, rfl⟩ := okWide_slice Try.underlying27 (hval 0 27 v0 rfl rfl)
  have k0 := h0
  have lt0 : ∀ x ∈ p0, x.block < W.heap.size := by obtain ⟨m, hm⟩ := k0; exact DataW.trod_lt m _ _ _ hm
  obtain ⟨z0, w0⟩ : ∃ bs, IsBools W a0 len0 cap0 bs := by
    obtain ⟨fuel, hf⟩ := h0
    rcases Go.Deep.open_bools Try.underlying27 Try.underlying4 (by kernel_rfl) hf with ⟨hcs, _⟩ | ⟨x, l, c, B, hcs, _, hl, hm, _, hcell⟩
    · simp [Value.cells] at hcs
      obtain ⟨rfl, rfl, rfl⟩ := hcs
      exact ⟨[], .inl ⟨rfl, rfl, rfl, rfl⟩⟩
    · simp [Value.cells] at hcs
      obtain ⟨rfl, rfl, rfl⟩ := hcs
      exact isBools_mk B hl hm hcell
  obtain ⟨a1, rfl, rfl, rfl, w1⟩ := open_int Try.underlying3 (hval 1 3 v1 rfl rfl) h1
  obtain ⟨a2, rfl, rfl, rfl, w2⟩ := open_int Try.underlying5 (hval 2 5 v2 rfl rfl) h2
  clear hA0 hval0
  refine (walk a0 len0 cap0 z0 a1 a2 W w0 w1 w2).mono fun e W' ⟨he, bel⟩ => ?_
  subst he
  exact ⟨_, rfl, _, _, _, [], _, [], hW', trodAll_mk1 (shut_bool Try.underlying4 _), (trodAll_cons_mk (Below.trod laidOut (by kernel_rfl) (of_decide_eq_true (by kernel_rfl)) k0 bel lt0) (trodAll_cons_mk (shut_int Try.underlying3 w1) (trodAll_cons_mk (shut_int Try.underlying5 w2) trodAll_mk0))), rfl, bel.frame _, fun h => by cases h⟩

theorem over : Rows.askFreeRow.holds Try.pinned (OpenSpec.ofChange Rows.askFreeSpec) :=
  OpenClaim.holds_of_wide 5 Try.f5 rfl rfl rfl rfl rfl rfl rfl ⟨rfl, rfl, rfl, rfl, rfl⟩ rfl rfl rfl rfl rfl (by kernel_rfl) Try.func5 (by kernel_rfl)
    (of_decide_eq_true (by kernel_rfl)) (by unfold Func.isWrapper; first | (rw [if_pos (by decide +kernel)]; kernel_rfl) | (rw [if_neg (by decide +kernel)]; exact ⟨rfl, rfl⟩))
    (fun os started H enc _ => lifted os started H enc)

/-- ████ THE STATEMENT ████ -/
theorem proved : Rows.AskFreeSaid := over
#print axioms proved
end Go.Proofs.Ytebpilfogdenjaa.askFree

/- Proved: for every slice of bytes and every bool, busbarlaw4.HeadGets returns true, and its argument reads as before. Conditions: none. -/
import Derived.Test.YtkaggkbjepggkaaAwake4
import Derived.Test.YtkaggkbjepggkaaLentBytes
namespace Go.Proofs.Ytkaggkbjepggkaa.headGets
open Go.ChangeShapes Go.WideShapes Go.ChangeAt Go.RowKit
open Go.ChangeMaps (open_string shut_string)
set_option linter.unusedVariables false


theorem walk_long (a0 : Option Addr) (len0 cap0 : Nat) (m : Bool) (w : World) (hlen : 60 < len0) :
    Calls Try.prog 4 #[.slice a0 len0 cap0, .bool m] w fun e w' => e = .returned (.bool true) ∧ Below w.heap.size w w' := by
  go_enter Try.func4, Try.ntmps4
  go_wp2_with (go_at_call 6; refine (awake_any _).mono ?_; rintro e w1 ⟨rfl, hb⟩; have HB := Lib.hid hb; clear hb)
  go_ret
  exact ⟨rfl, HB.out⟩

/-- What both readings answer. -/
theorem both (zs : List Int) (n : Nat) (hx : Bytes8 zs) (hn : n ≤ 100) : ∃ t l u e : Int,
    (∀ A c W, Row .u8 W W.heap.size A n zs → Calls Try.prog 9 #[.slice A n c] W fun x w' => x = .returned (.tuple #[.agg #[.int .i64 t, .int .i64 l, .int .i64 u], .int .i64 e]) ∧ Below W.heap.size W w') ∧
    ∀ A c W, Row .u8 W W.heap.size A n zs → Calls Try.prog 11 #[.slice A n c] W fun x w' => x = .returned (.tuple #[.agg #[.int .i64 t, .int .i64 l, .int .i64 u], .int .i64 e]) ∧ Below W.heap.size W w' :=
  ⟨hT zs n, hL zs n, hU zs n, hE zs n, fun A c W hr => hget_any A n c zs W hr hx (by omega), fun A c W hr => rhead_any A n c zs W hr hx (by omega)⟩

set_option maxHeartbeats 1000000 in
theorem walk_plain (A : Option Addr) (n c : Nat) (zs : List Int) (w : World) (hr : Row .u8 w w.heap.size A n zs) (hx : Bytes8 zs) (hn : n ≤ 60) :
    Calls Try.prog 4 #[.slice A n c, .bool false] w fun e w' => e = .returned (.bool true) ∧ Below w.heap.size w w' := by
  have HR := Lib.hid hr
  have HX := Lib.hid hx
  clear hr hx
  go_enter Try.func4, Try.ntmps4
  go_wp2_with (first
    | (go_at_call 6
       refine (awake_any _).mono ?_
       rintro e w1 ⟨rfl, hb⟩
       have HR1 := Lib.hid ((HR.out.below hb).more hb.size)
       have HB1 := Lib.hid hb
       have HO := Lib.hid (own_none w1 w.heap.size 5)
       clear hb)
    | (at_builtin
       refine wpList_append_row _ (o := ⟨some 21, _, _, _, _, _⟩) rfl (.const (.slice none 0 0)) (.tmp 20) 22 rfl w.heap.size 5 (.int .u8 0) 1 Try.underlying22 info5 rfl (.slice none 0 0) 0 [] rfl HO.out _ A n c _ rfl HR1.out.v (one_cells _ _) (by omega) (by omega) HB1.out.size ?_
       intro v2 w2 hown2 hg2 hat2
       rw [Nat.zero_add] at hown2
       obtain ⟨B, cb, rfl⟩ := own_slice hown2
       have HO2 := Lib.hid hown2
       have HB2 := Lib.hid (below_append HB1.out HO.out hg2 HB1.out.size)
       clear hown2 hg2 hat2))
  have HY := HX
  have HBX := HB2
  have HOX : Hid (w2.ownsRow w.heap.size 5 1 (.slice B n cb) n (zs.map (Value.int .u8))) := by
    have h := HO2.out
    rwa [List.nil_append] at h
  clear HO2
  obtain ⟨t, l, u, ee, hG, hRf⟩ := both zs n (HY.out) (by omega)
  have HG := Lib.hid hG
  have HF := Lib.hid hRf
  have HRY : Hid (Row .u8 w2 w2.heap.size B n zs) := (own_row HOX.out).ints
  clear hG hRf
  go_wp2_with (first
    | (go_at_call 10
       refine (lent_all B n cb zs w2 HRY.out (by omega)).mono ?_
       rintro e w3 ⟨rfl, hr3, hm3, hw3, hb3, hz3⟩
       have HR3 := Lib.hid hr3
       have HM3 := Lib.hid hm3
       have HW3 := Lib.hid hw3
       have HB3 := Lib.hid (HBX.out.trans (hb3.mono HBX.out.size))
       clear hr3 hm3 hw3 hb3)
    | (go_at_call 9
       refine (HG.out _ _ _ HM3.out).mono ?_
       rintro e w4 ⟨rfl, hb4⟩
       have hk4 : Below w3.heap.size w3 (w4.alloc (.cells #[.int .i64 t, .int .i64 l, .int .i64 u] 28)) := hb4.alloc hb4.size _
       have HK4 := Lib.hid hk4
       have HR4 := Lib.hid ((HR3.out.below hk4).more hk4.size)
       clear hk4 hb4)
    | (go_at_call 11
       refine (HF.out _ _ _ HR4.out).mono ?_
       rintro e w5 ⟨rfl, hb5⟩
       have hk5 : Below (w4.heap.size + 1) (w4.alloc (.cells #[.int .i64 t, .int .i64 l, .int .i64 u] 28)) (w5.alloc (.cells #[.int .i64 t, .int .i64 l, .int .i64 u] 30)) := by
         have h := hb5.size
         rw [show (w4.alloc (.cells #[.int .i64 t, .int .i64 l, .int .i64 u] 28)).heap.size = w4.heap.size + 1 by simp] at hb5 h
         exact hb5.alloc h _
       obtain ⟨hc0, hc1, hc2, _⟩ := box_cells t l u _ w4 _ hk5
       have HK5 := Lib.hid (HK4.out.trans (hk5.mono (by have := HK4.out.size; simp at this; omega)))
       clear hk5 hb5)
    | (go_at_call 12
       refine (stays_kept B n cb w2.heap.size zs w3 _ HR3.out HW3.out (by omega) HK5.out).mono ?_
       rintro e w6 ⟨rfl, d6, rfl⟩))
  go_ret
  exact ⟨rfl, below_drewN (HB3.out.trans (HK5.out.mono HB3.out.size)) _⟩

set_option maxHeartbeats 1000000 in
theorem walk_mend (A : Option Addr) (n c : Nat) (zs : List Int) (w : World) (hr : Row .u8 w w.heap.size A n zs) (hx : Bytes8 zs) (hn : n ≤ 60) :
    Calls Try.prog 4 #[.slice A n c, .bool true] w fun e w' => e = .returned (.bool true) ∧ Below w.heap.size w w' := by
  have HR := Lib.hid hr
  have HX := Lib.hid hx
  clear hr hx
  go_enter Try.func4, Try.ntmps4
  go_wp2_with (first
    | (go_at_call 6
       refine (awake_any _).mono ?_
       rintro e w1 ⟨rfl, hb⟩
       have HR1 := Lib.hid ((HR.out.below hb).more hb.size)
       have HB1 := Lib.hid hb
       have HO := Lib.hid (own_none w1 w.heap.size 5)
       clear hb)
    | (at_builtin
       refine wpList_append_row _ (o := ⟨some 21, _, _, _, _, _⟩) rfl (.const (.slice none 0 0)) (.tmp 20) 22 rfl w.heap.size 5 (.int .u8 0) 1 Try.underlying22 info5 rfl (.slice none 0 0) 0 [] rfl HO.out _ A n c _ rfl HR1.out.v (one_cells _ _) (by omega) (by omega) HB1.out.size ?_
       intro v2 w2 hown2 hg2 hat2
       rw [Nat.zero_add] at hown2
       obtain ⟨B, cb, rfl⟩ := own_slice hown2
       have HO2 := Lib.hid hown2
       have HB2 := Lib.hid (below_append HB1.out HO.out hg2 HB1.out.size)
       clear hown2 hg2 hat2))
  have HOX : Hid (w2.ownsRow w.heap.size 5 1 (.slice B n cb) n (zs.map (Value.int .u8))) := by
    have h := HO2.out
    rwa [List.nil_append] at h
  clear HO2
  go_loopw [6] (fun i wr => ∃ (k : Nat) (ys : List Int), 2 ≤ k ∧ k ≤ 5 ∧ i = .int .i64 (k : Int) ∧ Hid (Bytes8 ys) ∧ Hid (wr.ownsRow w.heap.size 5 1 (.slice B n cb) n (ys.map (Value.int .u8))) ∧ Hid (Below w.heap.size w wr)) (fun i _ => 5 - (intOf i).toNat)
  case atStart => exact ⟨2, zs, by omega, by omega, rfl, HX, HOX, HB2⟩
  case round =>
    clear HOX HB2
    obtain ⟨k, ys, hk2, hk5, rfl, HY, HOX, HBX⟩ := hrel
    by_cases hlt : k < 5 ∧ k < n
    · obtain ⟨h5, hkn⟩ := hlt
      obtain ⟨g, cap, hv, hgb, hrow, hfz, hset⟩ := own_open HOX.out (by omega)
      injection hv with hv1 _ hv3
      subst hv1 hv3
      have hc : wr.cell? ⟨g, k, none⟩ = some (.int .u8 (ys.getD k 0)) := by
        obtain ⟨b, off, e, _, hcell⟩ := hrow.ints.2 (by omega)
        injection e with e
        injection e with e1 e2
        subst e1 e2
        have := hcell k hkn
        rwa [Nat.zero_add] at this
      have hf := hfz k
      have HS := Lib.hid (hset k (.int .u8 0))
      have hi1 : (k : Int) < (n : Int) := by omega
      have hi5 : (k : Int) < 5 := by omega
      clear hset hfz hrow
      go_wp2
      go_roundw
      case rel =>
        refine ⟨k + 1, ys.set k 0, by omega, by omega, by go_num, ?_, ?_, HBX.out.setCell hgb _⟩
        · intro x hx
          rcases List.mem_or_eq_of_mem_set hx with h | h
          · exact HY.out x h
          · omega
        · have h := HS.out
          rw [List.map_set]
          exact h
      case measure => simp [intOf]; omega
    · have hout : (decide ((k : Int) < 5) && decide ((k : Int) < (n : Int))) = false := by simp; omega
      by_cases h5 : k < 5
      · have hi5 : (k : Int) < 5 := by omega
        have hi1 : ¬ (k : Int) < (n : Int) := by omega
        have hd1 : decide ((k : Int) < (n : Int)) = false := by simpa using hi1
        clear hlt hout
        obtain ⟨t, l, u, ee, hG, hRf⟩ := both ys n (HY.out) (by omega)
        have HG := Lib.hid hG
        have HF := Lib.hid hRf
        have HRY : Hid (Row .u8 wr wr.heap.size B n ys) := (own_row HOX.out).ints
        clear hG hRf
        go_wp2_with (first
          | (go_at_call 10
             refine (lent_all B n cb ys wr HRY.out (by omega)).mono ?_
             rintro e w3 ⟨rfl, hr3, hm3, hw3, hb3, hz3⟩
             have HR3 := Lib.hid hr3
             have HM3 := Lib.hid hm3
             have HW3 := Lib.hid hw3
             have HB3 := Lib.hid (HBX.out.trans (hb3.mono HBX.out.size))
             clear hr3 hm3 hw3 hb3)
          | (go_at_call 9
             refine (HG.out _ _ _ HM3.out).mono ?_
             rintro e w4 ⟨rfl, hb4⟩
             have hk4 : Below w3.heap.size w3 (w4.alloc (.cells #[.int .i64 t, .int .i64 l, .int .i64 u] 28)) := hb4.alloc hb4.size _
             have HK4 := Lib.hid hk4
             have HR4 := Lib.hid ((HR3.out.below hk4).more hk4.size)
             clear hk4 hb4)
          | (go_at_call 11
             refine (HF.out _ _ _ HR4.out).mono ?_
             rintro e w5 ⟨rfl, hb5⟩
             have hk5 : Below (w4.heap.size + 1) (w4.alloc (.cells #[.int .i64 t, .int .i64 l, .int .i64 u] 28)) (w5.alloc (.cells #[.int .i64 t, .int .i64 l, .int .i64 u] 30)) := by
               have h := hb5.size
               rw [show (w4.alloc (.cells #[.int .i64 t, .int .i64 l, .int .i64 u] 28)).heap.size = w4.heap.size + 1 by simp] at hb5 h
               exact hb5.alloc h _
             obtain ⟨hc0, hc1, hc2, _⟩ := box_cells t l u _ w4 _ hk5
             have HK5 := Lib.hid (HK4.out.trans (hk5.mono (by have := HK4.out.size; simp at this; omega)))
             clear hk5 hb5)
          | (go_at_call 12
             refine (stays_kept B n cb wr.heap.size ys w3 _ HR3.out HW3.out (by omega) HK5.out).mono ?_
             rintro e w6 ⟨rfl, d6, rfl⟩))
        go_ret
        exact ⟨rfl, below_drewN (HB3.out.trans (HK5.out.mono HB3.out.size)) _⟩
      · have hi5 : ¬ (k : Int) < 5 := by omega
        have hd1 : decide ((k : Int) < 5) = false := by simpa using hi5
        clear hlt hout
        obtain ⟨t, l, u, ee, hG, hRf⟩ := both ys n (HY.out) (by omega)
        have HG := Lib.hid hG
        have HF := Lib.hid hRf
        have HRY : Hid (Row .u8 wr wr.heap.size B n ys) := (own_row HOX.out).ints
        clear hG hRf
        go_wp2_with (first
          | (go_at_call 10
             refine (lent_all B n cb ys wr HRY.out (by omega)).mono ?_
             rintro e w3 ⟨rfl, hr3, hm3, hw3, hb3, hz3⟩
             have HR3 := Lib.hid hr3
             have HM3 := Lib.hid hm3
             have HW3 := Lib.hid hw3
             have HB3 := Lib.hid (HBX.out.trans (hb3.mono HBX.out.size))
             clear hr3 hm3 hw3 hb3)
          | (go_at_call 9
             refine (HG.out _ _ _ HM3.out).mono ?_
             rintro e w4 ⟨rfl, hb4⟩
             have hk4 : Below w3.heap.size w3 (w4.alloc (.cells #[.int .i64 t, .int .i64 l, .int .i64 u] 28)) := hb4.alloc hb4.size _
             have HK4 := Lib.hid hk4
             have HR4 := Lib.hid ((HR3.out.below hk4).more hk4.size)
             clear hk4 hb4)
          | (go_at_call 11
             refine (HF.out _ _ _ HR4.out).mono ?_
             rintro e w5 ⟨rfl, hb5⟩
             have hk5 : Below (w4.heap.size + 1) (w4.alloc (.cells #[.int .i64 t, .int .i64 l, .int .i64 u] 28)) (w5.alloc (.cells #[.int .i64 t, .int .i64 l, .int .i64 u] 30)) := by
               have h := hb5.size
               rw [show (w4.alloc (.cells #[.int .i64 t, .int .i64 l, .int .i64 u] 28)).heap.size = w4.heap.size + 1 by simp] at hb5 h
               exact hb5.alloc h _
             obtain ⟨hc0, hc1, hc2, _⟩ := box_cells t l u _ w4 _ hk5
             have HK5 := Lib.hid (HK4.out.trans (hk5.mono (by have := HK4.out.size; simp at this; omega)))
             clear hk5 hb5)
          | (go_at_call 12
             refine (stays_kept B n cb wr.heap.size ys w3 _ HR3.out HW3.out (by omega) HK5.out).mono ?_
             rintro e w6 ⟨rfl, d6, rfl⟩))
        go_ret
        exact ⟨rfl, below_drewN (HB3.out.trans (HK5.out.mono HB3.out.size)) _⟩

theorem walk (a0 : Option Addr) (len0 cap0 : Nat) (z0 : List Int) (a1 : Bool) (w : World) (w0 : IsRow .u8 w a0 len0 cap0 z0) :
    Calls Try.prog 4 #[.slice a0 len0 cap0, .bool a1] w fun e w' => e = .returned (.bool true) ∧ Below w.heap.size w w' := by
  rcases Nat.lt_or_ge 60 len0 with h | h
  · exact walk_long a0 len0 cap0 a1 w h
  · cases a1
    · exact walk_plain a0 len0 cap0 _ w w0.row w0.bytes h
    · exact walk_mend a0 len0 cap0 _ w w0.row w0.bytes h

/-! ### THE ROW's STEP: WRITTEN OUT: LEAVE IT -/
set_option maxRecDepth 100000 in
theorem lifted (os : Os) (started : os.Started) (H : Type) (enc : TypeId × Value → H) :
    ReturnsInHanded {} Try.checked os 4 .any (Rows.headGetsSpec.pre6 enc Try.prog Try.f4 Rows.headGetsRow.domain false) (Rows.headGetsSpec.post enc Try.prog Try.f4 false true false false) := by
  refine returnsInHanded_of_change (C := Try.checked) own started (by kernel_rfl) Try.func4
    (ChangeSpec.witness6 (enc := enc) (C := Try.checked) false ⟨#[], #[.slice none 0 0, .bool false], []⟩ 8 (by kernel_rfl) (by kernel_rfl) (by kernel_rfl) (by kernel_rfl)) ?_
  intro W base args ds gs before hval0 hW hcnd _
  have hval : ∀ (j : Nat) t v, Try.f4.params[j]? = some t → args[j]? = some v → Value.okWide Try.prog W .any base t v := hval0
  have hW' := hW
  obtain ⟨p, q, hA0, hV, rfl, hfz, hnd⟩ := hW
  have hA : DataW.TrodAll enc Try.prog W 0 (fun _ => true) true Try.f4.params.toList args.toList ds p := hA0
  rw [Try.params4] at hA hval
  obtain ⟨v0, vs0, d0, ds0, p0, q0, hargs, rfl, rfl, h0, r0⟩ := trodAll_cons hA
  obtain ⟨v1, vs1, d1, ds1, p1, q1, rfl, rfl, rfl, h1, r1⟩ := trodAll_cons r0
  obtain ⟨rfl, rfl, rfl⟩ := trodAll_nil r1
  obtain rfl : args = #[v0, v1] := by cases args; simp_all
  obtain ⟨rfl, rfl⟩ := trodVars_none hV
  obtain ⟨a0, len0, cap0, rfl⟩ := okWide_slice Try.underlying22 (hval 0 22 v0 rfl rfl)
  have k0 := h0
  have lt0 : ∀ x ∈ p0, x.block < W.heap.size := by obtain ⟨m, hm⟩ := k0; exact DataW.trod_lt m _ _ _ hm
  obtain ⟨z0, w0⟩ : ∃ zs, IsRow .u8 W a0 len0 cap0 zs := by
    obtain ⟨fuel, hf⟩ := h0
    rcases open_ints Try.underlying22 Try.underlying5 (by kernel_rfl) hf with ⟨hcs, _⟩ | ⟨x, l, c, zs, hcs, _, hl, hm, hz, _, hcell, hwz⟩
    · simp [Value.cells] at hcs
      obtain ⟨rfl, rfl, rfl⟩ := hcs
      exact ⟨[], .inl ⟨rfl, rfl, rfl, rfl⟩⟩
    · simp [Value.cells] at hcs
      obtain ⟨rfl, rfl, rfl⟩ := hcs
      exact ⟨zs, .inr ⟨_, rfl, hl, hm, by simpa using hz, hcell, hwz⟩⟩
  obtain ⟨a1, rfl, rfl, rfl⟩ := open_bool Try.underlying4 (hval 1 4 v1 rfl rfl) h1
  clear hA0 hval0
  refine (walk a0 len0 cap0 z0 a1 W w0).mono fun e W' ⟨he, bel⟩ => ?_
  subst he
  exact ⟨_, rfl, _, _, _, [], _, [], hW', trodAll_mk1 (shut_bool Try.underlying4 _), (trodAll_cons_mk (Below.trod laidOut (by kernel_rfl) (of_decide_eq_true (by kernel_rfl)) k0 bel lt0) (trodAll_cons_mk (shut_bool Try.underlying4 _) trodAll_mk0)), rfl, bel.frame _, fun h => by cases h⟩

theorem over : Rows.headGetsRow.holds Try.pinned (OpenSpec.ofChange Rows.headGetsSpec) :=
  OpenClaim.holds_of_wide 4 Try.f4 rfl rfl rfl rfl rfl rfl rfl ⟨rfl, rfl, rfl, rfl, rfl⟩ rfl rfl rfl rfl rfl (by kernel_rfl) Try.func4 (by kernel_rfl)
    (of_decide_eq_true (by kernel_rfl)) (by unfold Func.isWrapper; first | (rw [if_pos (by decide +kernel)]; kernel_rfl) | (rw [if_neg (by decide +kernel)]; exact ⟨rfl, rfl⟩))
    (fun os started H enc _ => lifted os started H enc)

/-- ████ THE STATEMENT ████ -/
theorem proved : Rows.HeadGetsSaid := over
#print axioms proved
end Go.Proofs.Ytkaggkbjepggkaa.headGets

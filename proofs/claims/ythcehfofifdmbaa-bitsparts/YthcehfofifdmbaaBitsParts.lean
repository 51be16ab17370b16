/- Proved: for all two slices of bools, busbarlaw2.BitsParts returns true, and its arguments read as before. Conditions: none. -/
import Derived.Test.YthcehfofifdmbaaSets
namespace Go.Proofs.Ythcehfofifdmbaa.bitsParts
open Go.ChangeShapes Go.WideShapes Go.ChangeAt Go.RowKit
open Go.ChangeMaps (open_string shut_string)
set_option linter.unusedVariables false


theorem walk_long (a0 : Option Addr) (len0 cap0 : Nat) (a1 : Option Addr) (len1 cap1 : Nat) (w : World) (hlen : 100 < len0 ∨ 100 < len1) :
    Calls Try.prog 7 #[.slice a0 len0 cap0, .slice a1 len1 cap1] w fun e w' => e = .returned (.bool true) ∧ Below w.heap.size w w' := by
  by_cases h : 100 < len0
  · clear hlen
    go_enter Try.func7, Try.ntmps7
    go_wp2_with (go_at_call 8; refine (awake_any _).mono ?_; rintro e w1 ⟨rfl, hb⟩; have HB := Lib.hid hb; clear hb)
    go_ret
    exact ⟨rfl, HB.out⟩
  · have h1 : 100 < len1 := by omega
    clear hlen
    go_enter Try.func7, Try.ntmps7
    go_wp2_with (go_at_call 8; refine (awake_any _).mono ?_; rintro e w1 ⟨rfl, hb⟩; have HB := Lib.hid hb; clear hb)
    go_ret
    exact ⟨rfl, HB.out⟩

theorem take_row {w : World} {B : Nat} {A : Option Addr} {n m : Nat} {bs : List Bool} (h : BRow w B A n bs) (hm : m ≤ n) : BRow w B A m (bs.take m) := by
  refine ⟨by rw [List.length_take, h.1]; omega, fun h0 => ?_⟩
  obtain ⟨b, off, e, hb, hc⟩ := h.2 (by omega)
  refine ⟨b, off, e, hb, fun j hj => ?_⟩
  rw [hc j (by omega)]
  simp [List.getD, hj]

set_option maxHeartbeats 1000000 in
theorem walk_short (A : Option Addr) (n c : Nat) (bs : List Bool) (B : Option Addr) (m d : Nat) (cs : List Bool) (w : World) (hr : BRow w w.heap.size A n bs) (hs : BRow w w.heap.size B m cs) (hn : n ≤ 100) (hm : m ≤ 100) (hnc : n ≤ c) :
    Calls Try.prog 7 #[.slice A n c, .slice B m d] w fun e w' => e = .returned (.bool true) ∧ Below w.heap.size w w' := by
  have HR := Lib.hid hr
  have HS := Lib.hid hs
  obtain ⟨q, hq⟩ : ∃ q, q = n / 8 * 8 := ⟨_, rfl⟩
  have hqn : q ≤ n := by omega
  have e1 : (n : Int) / 8 * 8 = ((q : Nat) : Int) := by omega
  have HQ := Lib.hid hq
  clear hr hs hq
  go_enter Try.func7, Try.ntmps7
  go_wp2_with (first
    | (go_at_call 8
       refine (awake_any _).mono ?_
       rintro e w1 ⟨rfl, hb⟩
       have HB1 := Lib.hid hb
       have HR1 := Lib.hid ((HR.out.below hb).more hb.size)
       have HS1 := Lib.hid ((HS.out.below hb).more hb.size)
       have HQ1 := Lib.hid (take_row HR1.out hqn)
       have HO := Lib.hid (own_none w1 w.heap.size 4)
       clear hb)
    | (at_builtin
       refine wpList_append_row _ (o := ⟨some 26, _, _, _, _, _⟩) rfl (.const (.slice none 0 0)) (.tmp 25) 22 rfl w.heap.size 4 (.bool false) 1 Try.underlying22 infoBool rfl (.slice none 0 0) 0 [] rfl HO.out _ A q c _ rfl HQ1.out.v (bools_oneCell _) (by omega) (by omega) HB1.out.size ?_
       intro v2 w2 hown2 hg2 hat2
       rw [Nat.zero_add, List.nil_append] at hown2
       have HB2 := Lib.hid (below_append HB1.out HO.out hg2 HB1.out.size)
       have HK2 := Lib.hid ((Below.refl w1.heap.size w1).grown hg2 (Nat.le_refl _) (by simp [Value.ownBlock]))
       have HO2 := Lib.hid hown2
       have HA2 := Lib.hid hat2
       have HQ2 := Lib.hid ((HQ1.out.below HK2.out).more HK2.out.size)
       have HS2 := Lib.hid ((HS1.out.below HK2.out).more HK2.out.size)
       clear hown2 hg2 hat2)
    | (at_builtin
       refine wpList_append_row _ (o := ⟨some 28, _, _, _, _, _⟩) rfl (.tmp 26) (.tmp 27) 22 rfl w.heap.size 4 (.bool false) 1 Try.underlying22 infoBool rfl v2 q _ rfl HO2.out _ B m d _ rfl HS2.out.v (bools_oneCell _) (by omega) (by omega) HB2.out.size ?_
       intro v3 w3 hown3 hg3 hat3
       obtain ⟨C, cc, rfl⟩ := own_slice hown3
       rw [← List.map_append] at hown3
       have HB3 := Lib.hid (below_append HB2.out HO2.out hg3 HB2.out.size)
       have HK3 : Hid (Below w1.heap.size w1 w3) := HK2.out.grown hg3 HK2.out.size (fun k hk => by
         rcases HA2.out with e | e
         · rw [e] at hk; simp [Value.ownBlock] at hk
         · rw [e] at hk; injection hk with hk; omega)
       have HO3 := Lib.hid (own_row hown3).bools
       have HQ3 := Lib.hid ((HQ1.out.below HK3.out).more HK3.out.size)
       have HS3 := Lib.hid ((HS1.out.below HK3.out).more HK3.out.size)
       clear hown3 hg3 hat3))
  have hsz : (strOfNums (pk (bs.take q) q)).size + (strOfNums (pk cs m)).size ≤ 9223372036854775807 := by
    rw [strOfNums_size, strOfNums_size, pk_length, pk_length, HQ3.out.1, HS3.out.1]
    have := nb_le q
    have := nb_le m
    omega
  have HE : Hid (strOfNums (pk (bs.take q ++ cs) (q + m)) = strOfNums (pk (bs.take q) q) ++ strOfNums (pk cs m)) := Lib.hid (by
    have h := pk_append (bs.take q) cs (by rw [HQ3.out.1, HQ.out]; omega)
    rw [List.length_append, HQ3.out.1, HS3.out.1] at h
    rw [h, strOfNums_append])
  go_region_held (fun W => Below w3.heap.size w3 W) (first | exact (Below.refl _ _).drew | exact hb4 | exact hb5 | exact hb6)
    (first
      | (go_at_call 10
         with_reducible refine (pack_kept C (q + m) cc (bs.take q ++ cs) w3 _ HO3.out (by omega) ?_).mono ?_
         · first | assumption | exact (Below.refl _ _).drew
         rintro e w4 ⟨g4, rfl, hr4, hk4, hb4⟩
         have hc4 := conv_row _ _ (nb (q + m)) _ _ hr4)
      | (go_at_call 10
         with_reducible refine (pack_kept A q c (bs.take q) w3 _ HQ3.out (by omega) ?_).mono ?_
         · first | assumption | exact hb4
         rintro e w5 ⟨g5, rfl, hr5, hk5, hb5⟩
         have hc5 := conv_row _ _ (nb q) _ _ hr5
         have hr45 := (hr4.below hk5).more hk5.size
         have hc45 := conv_row _ _ (nb (q + m)) _ _ hr45)
      | (go_at_call 10
         with_reducible refine (pack_kept B m d cs w3 _ HS3.out (by omega) ?_).mono ?_
         · first | assumption | exact hb5
         rintro e w6 ⟨g6, rfl, hr6, hk6, hb6⟩
         have hc6 := conv_row _ _ (nb m) _ _ hr6
         have hr56 := (hr5.below hk6).more hk6.size
         have hc56 := conv_row _ _ (nb q) _ _ hr56
         have hr46 := (hr45.below hk6).more hk6.size
         have hc46 := conv_row _ _ (nb (q + m)) _ _ hr46))
  all_goals (
    go_wp2
    go_ret
    exact ⟨ret_bool (by rw [HE.out]; exact beq_self_eq_true _), HB3.out.trans (hb6.mono HB3.out.size)⟩)

theorem walk (a0 : Option Addr) (len0 cap0 : Nat) (z0 : List Bool) (a1 : Option Addr) (len1 cap1 : Nat) (z1 : List Bool) (w : World) (w0 : IsBools w a0 len0 cap0 z0) (w1 : IsBools w a1 len1 cap1 z1) :
    Calls Try.prog 7 #[.slice a0 len0 cap0, .slice a1 len1 cap1] w fun e w' => e = .returned (.bool true) ∧ Below w.heap.size w w' := by
  by_cases h : 100 < len0 ∨ 100 < len1
  · exact walk_long a0 len0 cap0 a1 len1 cap1 w h
  · exact walk_short a0 len0 cap0 _ a1 len1 cap1 _ w w0.row w1.row (by omega) (by omega) w0.cap

/-! ### THE ROW's STEP: WRITTEN OUT: LEAVE IT -/
set_option maxRecDepth 100000 in
theorem lifted (os : Os) (started : os.Started) (H : Type) (enc : TypeId × Value → H) :
    ReturnsInHanded {} Try.checked os 7 .any (Rows.bitsPartsSpec.pre6 enc Try.prog Try.f7 Rows.bitsPartsRow.domain false) (Rows.bitsPartsSpec.post enc Try.prog Try.f7 false true false false) := by
  refine returnsInHanded_of_change (C := Try.checked) own started (by kernel_rfl) Try.func7
    (ChangeSpec.witness6 (enc := enc) (C := Try.checked) false ⟨#[], #[.slice none 0 0, .slice none 0 0], []⟩ 8 (by kernel_rfl) (by kernel_rfl) (by kernel_rfl) (by kernel_rfl)) ?_
  intro W base args ds gs before hval0 hW hcnd _
  have hval : ∀ (j : Nat) t v, Try.f7.params[j]? = some t → args[j]? = some v → Value.okWide Try.prog W .any base t v := hval0
  have hW' := hW
  obtain ⟨p, q, hA0, hV, rfl, hfz, hnd⟩ := hW
  have hA : DataW.TrodAll enc Try.prog W 0 (fun _ => true) true Try.f7.params.toList args.toList ds p := hA0
  rw [Try.params7] at hA hval
  obtain ⟨v0, vs0, d0, ds0, p0, q0, hargs, rfl, rfl, h0, r0⟩ := trodAll_cons hA
  obtain ⟨v1, vs1, d1, ds1, p1, q1, rfl, rfl, rfl, h1, r1⟩ := trodAll_cons r0
  obtain ⟨rfl, rfl, rfl⟩ := trodAll_nil r1
  obtain rfl : args = #[v0, v1] := by cases args; simp_all
  obtain ⟨rfl, rfl⟩ := trodVars_none hV
  obtain ⟨a0, len0, cap0, rfl⟩ := okWide_slice Try.underlying22 (hval 0 22 v0 rfl rfl)
  have k0 := h0
  have lt0 : ∀ x ∈ p0, x.block < W.heap.size := by obtain ⟨m, hm⟩ := k0; exact DataW.trod_lt m _ _ _ hm
  obtain ⟨z0, w0⟩ : ∃ bs, IsBools W a0 len0 cap0 bs := by
    obtain ⟨fuel, hf⟩ := h0
    rcases Go.Deep.open_bools Try.underlying22 Try.underlying4 (by kernel_rfl) hf with ⟨hcs, _⟩ | ⟨x, l, c, B, hcs, _, hl, hm, _, hcell⟩
    · simp [Value.cells] at hcs
      obtain ⟨rfl, rfl, rfl⟩ := hcs
      exact ⟨[], .inl ⟨rfl, rfl, rfl, rfl⟩⟩
    · simp [Value.cells] at hcs
      obtain ⟨rfl, rfl, rfl⟩ := hcs
      exact isBools_mk B hl hm hcell
  obtain ⟨a1, len1, cap1, rfl⟩ := okWide_slice Try.underlying22 (hval 1 22 v1 rfl rfl)
  have k1 := h1
  have lt1 : ∀ x ∈ p1, x.block < W.heap.size := by obtain ⟨m, hm⟩ := k1; exact DataW.trod_lt m _ _ _ hm
  obtain ⟨z1, w1⟩ : ∃ bs, IsBools W a1 len1 cap1 bs := by
    obtain ⟨fuel, hf⟩ := h1
    rcases Go.Deep.open_bools Try.underlying22 Try.underlying4 (by kernel_rfl) hf with ⟨hcs, _⟩ | ⟨x, l, c, B, hcs, _, hl, hm, _, hcell⟩
    · simp [Value.cells] at hcs
      obtain ⟨rfl, rfl, rfl⟩ := hcs
      exact ⟨[], .inl ⟨rfl, rfl, rfl, rfl⟩⟩
    · simp [Value.cells] at hcs
      obtain ⟨rfl, rfl, rfl⟩ := hcs
      exact isBools_mk B hl hm hcell
  clear hA0 hval0
  refine (walk a0 len0 cap0 z0 a1 len1 cap1 z1 W w0 w1).mono fun e W' ⟨he, bel⟩ => ?_
  subst he
  exact ⟨_, rfl, _, _, _, [], _, [], hW', trodAll_mk1 (shut_bool Try.underlying4 _), (trodAll_cons_mk (Below.trod laidOut (by kernel_rfl) (of_decide_eq_true (by kernel_rfl)) k0 bel lt0) (trodAll_cons_mk (Below.trod laidOut (by kernel_rfl) (of_decide_eq_true (by kernel_rfl)) k1 bel lt1) trodAll_mk0)), rfl, bel.frame _, fun h => by cases h⟩

theorem over : Rows.bitsPartsRow.holds Try.pinned (OpenSpec.ofChange Rows.bitsPartsSpec) :=
  OpenClaim.holds_of_wide 7 Try.f7 rfl rfl rfl rfl rfl rfl rfl ⟨rfl, rfl, rfl, rfl, rfl⟩ rfl rfl rfl rfl rfl (by kernel_rfl) Try.func7 (by kernel_rfl)
    (of_decide_eq_true (by kernel_rfl)) (by unfold Func.isWrapper; first | (rw [if_pos (by decide +kernel)]; kernel_rfl) | (rw [if_neg (by decide +kernel)]; exact ⟨rfl, rfl⟩))
    (fun os started H enc _ => lifted os started H enc)

/-- ████ THE STATEMENT ████ -/
theorem proved : Rows.BitsPartsSaid := over
#print axioms proved
end Go.Proofs.Ythcehfofifdmbaa.bitsParts

/- Proved: for every slice of ints, two ints and slice of bytes, busbarlaw10.FlowBad returns true, and its arguments read as before. Conditions: none. -/
import Derived.Test.YthmendcdfhlkkaaJFlowBad6
namespace Go.Proofs.Ythmendcdfhlkkaa.flowBad
open Go.ChangeShapes Go.WideShapes Go.ChangeAt Go.RowKit
open Go.ChangeMaps (open_string shut_string)
set_option linter.unusedVariables false


set_option maxRecDepth 100000 in
set_option maxHeartbeats 8000000 in
theorem bad_main (A0 : Option Addr) (n c0 : Nat) (ks : List Int) (pr le P L : Int) (A3 : Option Addr) (m3 c3 : Nat) (ms : List Int) (fs : Nat → List Int) (w : World) (hr0 : Row .i64 w w.heap.size A0 n ks) (hn : n ≤ 12) (hf : ∀ i, i < n → FIs (ks.getD i 0) (fs i))
    (b1 : -9223372036854775808 ≤ pr ∧ pr ≤ 9223372036854775807) (b2 : -9223372036854775808 ≤ le ∧ le ≤ 9223372036854775807) (hP : pr % 65536 = P) (hL : le % 65536 = L) (hbad : ¬ P = 0 ∨ (P = 0 ∧ L < 2) ∨ (P = 0 ∧ 254 < L))
    (hr3 : Row .u8 w w.heap.size A3 m3 ms) (hx3 : Bytes8 ms) (hm3 : m3 ≤ 100) (hc3 : m3 ≤ c3) :
    Calls Try.prog 8 #[.slice A0 n c0, .int .i64 pr, .int .i64 le, .slice A3 m3 c3] w fun e w' => e = .returned (.bool true) ∧ Below w.heap.size w w' := by
  have CP := Lib.hid (fun W => within_any pr 65536 W b1.1 b1.2 (by omega) (by omega))
  have CL := Lib.hid (fun W => within_any le 65536 W b2.1 b2.2 (by omega) (by omega))
  rw [hP] at CP
  rw [hL] at CL
  have hP0 : 0 ≤ P ∧ P ≤ 65535 := by omega
  have hL0 : 0 ≤ L ∧ L ≤ 65535 := by omega
  have CN := Lib.hid (fun W => fnew_any 65536 65536 W (by omega) (by omega) (by decide))
  have CR := Lib.hid (fun W (hb : Below w.heap.size w W) => row_any A0 n c0 n ks fs W ((hr0.below hb).more hb.size) (by omega) hf)
  obtain ⟨fr, hfr⟩ : ∃ fr, frOf ks fs = fr := ⟨_, rfl⟩
  have HFR : Hid (∀ i, fr i = frB i (ks.getD i 0 % 256) (fs i)) := fun i => by rw [← hfr]; rfl
  rw [hfr] at CR
  have HZ : Hid (∀ i, i < n → Bytes8 (fs i) ∧ 4 ≤ (fs i).length ∧ (fs i).length ≤ 252) := fun i hi => ⟨(hf i hi).1, (hf i hi).2.1, (hf i hi).2.2.1⟩
  have HL : Hid (∀ i, i ≤ n → (fcat fr 0 i).length ≤ 259 * i) := fun c hc => fcat_le fr n (fun i hi => by rw [HFR.out, frB_length]; have := HZ.out i hi; omega) c 0 (by omega)
  have HXA : Hid (Bytes8 (fcat fr 0 n)) := fcat_bytes fr n (fun i hi => by rw [HFR.out]; have := HZ.out i hi; exact frB_bytes _ _ _ (by omega) (by omega) (by omega) (by omega) this.1) n 0 (by omega)
  have HR3 := Lib.hid (fun W (S : Nat → Prop) (hb : Below w.heap.size w W) (hS : ∀ k, k < w.heap.size → ¬ S k) => RowOff.of_row (S := S) (hr3.below hb) hb.size hS)
  have HX3 := Lib.hid hx3
  have HM3 := Lib.hid hm3
  have HC3 := Lib.hid hc3
  have HLM := Lib.hid hr3.1
  have hni : ¬ (12 : Int) < (n : Int) := by omega
  have hmi : ¬ (100 : Int) < (m3 : Int) := by omega
  have HBH := Lib.hid (badH_bytes P L hP0 hL0)
  have HCO := Lib.hid (fun zs => badH_code P L zs (by omega))
  clear hr0 hf b1 b2 hP hL hfr hr3 hx3 hm3 hc3
  go_enter Try.func8, Try.ntmps8
  rcases hbad with hp | ⟨hp, hl⟩ | ⟨hp, hl⟩
  all_goals
    try (have hpb : (P == 0) = true := beq_iff_eq.2 hp; clear hp)
    try have hl2 : 2 ≤ L := by omega
    try have hl3 : ¬ L ≤ 254 := by omega
    go_wp2_with (first
      | (go_at_call 24; refine (awake10_any _).mono ?_; rintro e w1 ⟨rfl, hb⟩; have HB1 := Lib.hid hb; clear hb)
      | (go_at_call 11; (with_reducible refine (CP.out _).mono ?_); rintro e w' ⟨rfl, rfl⟩)
      | (go_at_call 11; (with_reducible refine (CL.out _).mono ?_); rintro e w' ⟨rfl, rfl⟩)
      | (go_at_call 25
         (with_reducible refine (CN.out _).mono ?_)
         rintro e w2 ⟨g, p, rfl, hr, hg, hp, hb⟩
         have HB2 := Lib.hid (HB1.out.trans (hb.mono HB1.out.size))
         have HF2 := Lib.hid hr
         have HGP : Hid (w.heap.size ≤ g ∧ w.heap.size ≤ p) := by have := HB1.out.size; show _ ∧ _; omega
         have C2 := Lib.hid (CR.out w2 HB2.out)
         clear hr hg hp hb)
      | (go_at_call 27
         (with_reducible refine C2.out.mono ?_)
         rintro e w3 ⟨B, d, m, rfl, hl, ho, hb⟩
         have HB3 : Hid (Below w.heap.size w w3) := HB2.out.trans (hb.mono HB2.out.size)
         have hm9 : m ≤ 4000 := by have h1 := HL.out n (Nat.le_refl _); rw [hl] at h1; omega
         have C3 := Lib.hid (feed_any w3 g p 65536 0 [] false B m d (fcat fr 0 n) m (HF2.out.below hb) HXA.out (own_gp HF2.out.q.lt ho) (by omega) (own_capI ho) (by simp; omega))
         have HLA := Lib.hid hl
         have htk : [] ++ (fcat fr 0 n).take m = fcat fr 0 n := by rw [List.nil_append, List.take_of_length_le (by omega)]
         unfold Fed at C3
         rw [htk] at C3
         have hm9i : (m : Int) ≤ 4000 := by omega
         clear ho hb hl htk)
      | (go_at_call 29
         (with_reducible refine C3.out.mono ?_)
         rintro e w4 ⟨rfl, hr, ho⟩
         have HB4 : Hid (Below w.heap.size w w4) := below_gp HB3.out HB3.out.size ho HGP.out.1 HGP.out.2
         have HF4 := Lib.hid hr
         clear hr ho
         have hbo : RowOff (w4.alloc (.cells #[.int .u8 0, .int .u8 0, .int .u8 (P / 256), .int .u8 (P % 256), .int .u8 (L / 256), .int .u8 (L % 256)] 5)) (GP g p) (some ⟨w4.heap.size, 0, none⟩) 6 (badH P L) := built_off w4 (GP g p) (badH P L) (by have := HF4.out.q.lt; unfold GP; omega)
         have C4 := Lib.hid (feed_any _ g p 65536 0 (fcat fr 0 n) false _ 6 6 (badH P L) 6 (HF4.out.below ((Below.refl _ _).alloc (Nat.le_refl _) _)) HBH.out hbo (by omega) (by omega) (by have := HLA.out; omega))
         unfold Fed at C4
         rw [show (badH P L).take 6 = badH P L from rfl] at C4
         clear hbo)
      | (go_at_call 29
         first | (with_reducible refine C4.out.mono ?_) | (rw [Int.emod_eq_of_lt hL0.1 (show L < 256 by omega)] at C4; with_reducible refine C4.out.mono ?_)
         rintro e w5 ⟨rfl, hr, ho⟩
         have HB5 : Hid (Below w.heap.size w w5) := below_gp (HB4.out.alloc HB4.out.size _) (by have := HB4.out.size; simp; omega) ho HGP.out.1 HGP.out.2
         have C5 := Lib.hid (feed_any w5 g p 65536 0 _ false A3 m3 c3 ms m3 hr HX3.out (HR3.out w5 (GP g p) HB5.out (fun k hk h => by have := HGP.out; rcases h with h | h <;> omega)) (by have := HM3.out; omega) HC3.out (by
           rw [List.length_append, HLA.out]
           have := HM3.out
           show m3 = min m3 (65536 - (m + 6))
           omega))
         unfold Fed at C5
         rw [List.take_of_length_le (by have := HLM.out; omega), List.append_assoc] at C5
         clear hr ho)
      | (go_at_call 29
         (with_reducible refine C5.out.mono ?_)
         rintro e w6 ⟨rfl, hr, ho⟩
         have HB6 : Hid (Below w.heap.size w w6) := below_gp HB5.out HB5.out.size ho HGP.out.1 HGP.out.2
         have HF6 := Lib.hid hr
         clear hr ho))
    obtain ⟨wo, hwo⟩ : ∃ wo, wo = w6 := ⟨_, rfl⟩
    subst hwo
    clear C2 C3 C4 C5 CN CP CL
    go_loopw [10] (fun i wr => ∃ (j f' p' : Nat), j ≤ n ∧ i = .int .i64 (j : Int) ∧ w.heap.size ≤ p' ∧ Hid (FAt wr g p' 65536 f' (fcat fr j (n - j) ++ (badH P L ++ ms)) false) ∧ Hid (Below w.heap.size w wr)) (fun i _ => n - (intOf i).toNat)
    case atStart => exact ⟨0, 0, p, by omega, rfl, HGP.out.2, HF6, HB6⟩
    case round =>
      obtain ⟨j, f', p', hj, rfl, hp', HFJ, HBJ⟩ := hrel
      by_cases hlt : j < n
      · have hi : (j : Int) < (n : Int) := by omega
        have hz := HZ.out j hlt
        have hq : fcat fr j (n - j) ++ (badH P L ++ ms) = frB j (ks.getD j 0 % 256) (fs j) ++ (fcat fr (j + 1) (n - (j + 1)) ++ (badH P L ++ ms)) := by
          obtain ⟨r, hr⟩ : ∃ r, n - j = r + 1 := ⟨n - j - 1, by omega⟩
          rw [hr, show n - (j + 1) = r by omega, ← HFR.out, ← List.append_assoc (fr j)]
          rfl
        have hfj := HFJ.out
        rw [hq] at hfj
        have CX := Lib.hid (next_frame wr g p' 65536 f' (j : Int) _ (fs j) _ (by omega) (by omega) (by omega) (by omega) hfj)
        clear hz hq hfj
        go_wp2_with (
          (go_at_call 31
           (with_reducible refine CX.out.mono ?_)
           rintro e w7 ⟨B7, k7, f7, p7, rfl, _, hr, hp7, ho⟩
           have HB7 : Hid (Below w.heap.size w w7) := below_gp HBJ.out HBJ.out.size ho HGP.out.1 hp'
           have hp8 : w.heap.size ≤ p7 := by have h2 := HBJ.out.size; rcases hp7 with h | h <;> omega
           have HF7 := Lib.hid (fun o => hr.below ((Below.refl w7.heap.size w7).alloc (Nat.le_refl _) o))
           have HB8 := Lib.hid (fun o => HB7.out.alloc HB7.out.size o)
           clear hr ho hp7))
        go_roundw
        case rel => exact ⟨j + 1, f7, p7, by omega, by go_num, hp8, HF7.out _, HB8.out _⟩
        case measure => simp [intOf]; omega
      · obtain rfl : n = j := by omega
        have hi : ¬ (n : Int) < (n : Int) := by omega
        have hfj := HFJ.out
        rw [Nat.sub_self] at hfj
        have hq : fcat fr n 0 ++ (badH P L ++ ms) = badH P L ++ ms := rfl
        rw [hq] at hfj
        have C0 := Lib.hid (fbad_any wr g p' 65536 f' _ false hfj)
        have C1 := Lib.hid (next_bad wr g p' 65536 f' _ false (by unfold gE; rw [if_neg (by decide)]; exact HCO.out ms) hfj)
        clear hfj hq
        go_wp2_with (first
          | (go_at_call 34; (with_reducible refine C0.out.mono ?_); rintro e w7 ⟨rfl, rfl⟩)
          | (go_at_call 31
             (with_reducible refine C1.out.mono ?_)
             rintro e w8 ⟨B8, k8, t8, u8, m8, rfl, ⟨f8, p8, hr, hp8⟩, ho⟩
             have HB8 : Hid (Below w.heap.size w w8) := below_gp HBJ.out HBJ.out.size ho HGP.out.1 hp'
             have hp9 : w.heap.size ≤ p8 := by have h2 := HBJ.out.size; rcases hp8 with h | h <;> omega
             have HB9 : Hid (Below w.heap.size w (w8.alloc (.cells #[.int .i64 t8, .int .i64 u8, .slice B8 m8 k8] 64))) := HB8.out.alloc HB8.out.size _
             have C9 := Lib.hid (feed_any (w8.alloc (.cells #[.int .i64 t8, .int .i64 u8, .slice B8 m8 k8] 64)) g p8 0 f8 [] true A3 m3 c3 ms 0 (hr.below ((Below.refl _ _).alloc (Nat.le_refl _) _)) HX3.out (HR3.out _ (GP g p8) HB9.out (fun k hk h => by have := HGP.out; rcases h with h | h <;> omega)) (by have := HM3.out; omega) HC3.out (by simp))
             clear hr ho hp8)
          | (go_at_call 29
             (with_reducible refine C9.out.mono ?_)
             rintro e w10 ⟨rfl, hr, ho⟩
             have HB10 : Hid (Below w.heap.size w w10) := below_gp HB9.out HB9.out.size ho HGP.out.1 hp9
             have C10 := Lib.hid (next_bad w10 g p8 0 f8 _ true rfl hr)
             clear hr ho)
          | (go_at_call 31
             (with_reducible refine C10.out.mono ?_)
             rintro e w11 ⟨B11, k11, t11, u11, m11, rfl, ⟨f11, p11, hr, hp11⟩, ho⟩
             have HB11 : Hid (Below w.heap.size w w11) := below_gp HB10.out HB10.out.size ho HGP.out.1 hp9
             have HB12 : Hid (Below w.heap.size w (w11.alloc (.cells #[.int .i64 t11, .int .i64 u11, .slice B11 m11 k11] 64))) := HB11.out.alloc HB11.out.size _
             have hr2 := hr.below ((Below.refl _ _).alloc (Nat.le_refl _) (.cells #[.int .i64 t11, .int .i64 u11, .slice B11 m11 k11] 64))
             have C12 := Lib.hid (fbad_any _ g p11 0 f11 [] true hr2)
             have C13 := Lib.hid (ready_any _ g p11 0 f11 [] true hr2)
             have HR12 := Lib.hid hr2
             clear hr hr2 ho hp11)
          | (go_at_call 34; (with_reducible refine C12.out.mono ?_); rintro e w12 ⟨rfl, rfl⟩)
          | (go_at_call 35
             (with_reducible refine C13.out.mono ?_)
             rintro e w13 ⟨rfl, hb⟩
             have HB13 : Hid (Below w.heap.size w w13) := HB12.out.trans (hb.mono HB12.out.size)
             have C14 := Lib.hid (fheld_any w13 g p11 0 f11 [] true (HR12.out.below hb))
             clear hb)
          | (go_at_call 33; (with_reducible refine C14.out.mono ?_); rintro e w14 ⟨rfl, rfl⟩))
        go_ret
        exact ⟨rfl, HB13.out⟩

theorem walk_long (A0 : Option Addr) (n c0 : Nat) (pr le : Int) (A3 : Option Addr) (m3 c3 : Nat) (w : World) (h : 12 < n ∨ (¬ 12 < n ∧ 100 < m3)) :
    Calls Try.prog 8 #[.slice A0 n c0, .int .i64 pr, .int .i64 le, .slice A3 m3 c3] w fun e w' => e = .returned (.bool true) ∧ Below w.heap.size w w' := by
  rcases h with h | ⟨h, h2⟩
  all_goals
    try have h3 : (12 : Int) < (n : Int) := by omega
    try have h3 : ¬ (12 : Int) < (n : Int) := by omega
    try have h4 : (100 : Int) < (m3 : Int) := by omega
    clear h
    go_enter Try.func8, Try.ntmps8
    go_wp2_with (go_at_call 24; refine (awake10_any _).mono ?_; rintro e w1 ⟨rfl, hb⟩; have HB1 := Lib.hid hb; clear hb)
    go_ret
    exact ⟨rfl, HB1.out⟩

theorem walk_fine (A0 : Option Addr) (n c0 : Nat) (pr le : Int) (A3 : Option Addr) (m3 c3 : Nat) (w : World) (hn : ¬ 12 < n) (hm : ¬ 100 < m3) (b1 : -9223372036854775808 ≤ pr ∧ pr ≤ 9223372036854775807) (b2 : -9223372036854775808 ≤ le ∧ le ≤ 9223372036854775807)
    (h0 : pr % 65536 = 0) (L : Int) (hL : le % 65536 = L) (h1 : 2 ≤ L) (h2 : L ≤ 254) :
    Calls Try.prog 8 #[.slice A0 n c0, .int .i64 pr, .int .i64 le, .slice A3 m3 c3] w fun e w' => e = .returned (.bool true) ∧ Below w.heap.size w w' := by
  have CP := Lib.hid (fun W => within_any pr 65536 W b1.1 b1.2 (by omega) (by omega))
  have CL := Lib.hid (fun W => within_any le 65536 W b2.1 b2.2 (by omega) (by omega))
  rw [h0] at CP
  rw [hL] at CL
  have h3 : ¬ (12 : Int) < (n : Int) := by omega
  have h4 : ¬ (100 : Int) < (m3 : Int) := by omega
  clear b1 b2 h0 hL hn hm
  go_enter Try.func8, Try.ntmps8
  go_wp2_with (first
    | (go_at_call 24; refine (awake10_any _).mono ?_; rintro e w1 ⟨rfl, hb⟩; have HB1 := Lib.hid hb; clear hb)
    | (go_at_call 11; (with_reducible refine (CP.out _).mono ?_); rintro e w' ⟨rfl, rfl⟩)
    | (go_at_call 11; (with_reducible refine (CL.out _).mono ?_); rintro e w' ⟨rfl, rfl⟩))
  go_ret
  exact ⟨rfl, HB1.out⟩

theorem walk (a0 : Option Addr) (len0 cap0 : Nat) (z0 : List Int) (a1 a2 : Int) (a3 : Option Addr) (len3 cap3 : Nat) (z3 : List Int) (w : World) (w0 : IsRow .i64 w a0 len0 cap0 z0) (w1 : (Lit.int .i64 a1).wf = true) (w2 : (Lit.int .i64 a2).wf = true) (w3 : IsRow .u8 w a3 len3 cap3 z3) :
    Calls Try.prog 8 #[.slice a0 len0 cap0, .int .i64 a1, .int .i64 a2, .slice a3 len3 cap3] w fun e w' => e = .returned (.bool true) ∧ Below w.heap.size w w' := by
  by_cases hn : 12 < len0
  · exact walk_long _ _ _ _ _ _ _ _ w (.inl hn)
  by_cases hm : 100 < len3
  · exact walk_long _ _ _ _ _ _ _ _ w (.inr ⟨hn, hm⟩)
  by_cases hb : a1 % 65536 = 0 ∧ 2 ≤ a2 % 65536 ∧ a2 % 65536 ≤ 254
  · exact walk_fine _ _ _ _ _ _ _ _ w hn hm (bounds_i64 w1) (bounds_i64 w2) hb.1 _ rfl hb.2.1 hb.2.2
  · have hf : ∀ i, ∃ zs, i < len0 → FIs ((z0.take len0).getD i 0) zs := by
      intro i
      by_cases hi : i < len0
      · have hl := w0.row.1
        have hk := bounds_i64 (w0.wf ((z0.take len0).getD i 0) (by rw [List.getD_eq_getElem?_getD, List.getElem?_eq_getElem (by omega)]; exact List.getElem_mem _))
        obtain ⟨zs, h⟩ := fis_some _ hk.1 hk.2
        exact ⟨zs, fun _ => h⟩
      · exact ⟨[], fun h => absurd h hi⟩
    have hc : ∃ fs : Nat → List Int, ∀ i, i < len0 → FIs ((z0.take len0).getD i 0) (fs i) := ⟨fun i => (hf i).choose, fun i hi => (hf i).choose_spec hi⟩
    obtain ⟨fs, hfs⟩ := hc
    exact bad_main a0 len0 cap0 _ a1 a2 _ _ a3 len3 cap3 _ fs w w0.row (by omega) hfs (bounds_i64 w1) (bounds_i64 w2) rfl rfl (by omega) w3.row w3.bytes (by omega) w3.cap

/-! ### THE ROW's STEP: WRITTEN OUT: LEAVE IT -/
set_option maxRecDepth 100000 in
theorem lifted (os : Os) (started : os.Started) (H : Type) (enc : TypeId × Value → H) :
    ReturnsInHanded {} Try.checked os 8 .any (Rows.flowBadSpec.pre6 enc Try.prog Try.f8 Rows.flowBadRow.domain false) (Rows.flowBadSpec.post enc Try.prog Try.f8 false true false false) := by
  refine returnsInHanded_of_change (C := Try.checked) own started (by kernel_rfl) Try.func8
    (ChangeSpec.witness6 (enc := enc) (C := Try.checked) false ⟨#[], #[.slice none 0 0, .int .i64 0, .int .i64 0, .slice none 0 0], []⟩ 8 (by kernel_rfl) (by kernel_rfl) (by kernel_rfl) (by kernel_rfl)) ?_
  intro W base args ds gs before hval0 hW hcnd _
  have hval : ∀ (j : Nat) t v, Try.f8.params[j]? = some t → args[j]? = some v → Value.okWide Try.prog W .any base t v := hval0
  have hW' := hW
  obtain ⟨p, q, hA0, hV, rfl, hfz, hnd⟩ := hW
  have hA : DataW.TrodAll enc Try.prog W 0 (fun _ => true) true Try.f8.params.toList args.toList ds p := hA0
  rw [Try.params8] at hA hval
  obtain ⟨v0, vs0, d0, ds0, p0, q0, hargs, rfl, rfl, h0, r0⟩ := trodAll_cons hA
  obtain ⟨v1, vs1, d1, ds1, p1, q1, rfl, rfl, rfl, h1, r1⟩ := trodAll_cons r0
  obtain ⟨v2, vs2, d2, ds2, p2, q2, rfl, rfl, rfl, h2, r2⟩ := trodAll_cons r1
  obtain ⟨v3, vs3, d3, ds3, p3, q3, rfl, rfl, rfl, h3, r3⟩ := trodAll_cons r2
  obtain ⟨rfl, rfl, rfl⟩ := trodAll_nil r3
  obtain rfl : args = #[v0, v1, v2, v3] := by cases args; simp_all
  obtain ⟨rfl, rfl⟩ := trodVars_none hV
  obtain ⟨a0, len0, cap0, rfl⟩ := okWide_slice Try.underlying43 (hval 0 43 v0 rfl rfl)
  have k0 := h0
  have lt0 : ∀ x ∈ p0, x.block < W.heap.size := by obtain ⟨m, hm⟩ := k0; exact DataW.trod_lt m _ _ _ hm
  obtain ⟨z0, w0⟩ : ∃ zs, IsRow .i64 W a0 len0 cap0 zs := by
    obtain ⟨fuel, hf⟩ := h0
    rcases open_ints Try.underlying43 Try.underlying3 (by kernel_rfl) hf with ⟨hcs, _⟩ | ⟨x, l, c, zs, hcs, _, hl, hm, hz, _, hcell, hwz⟩
    · simp [Value.cells] at hcs
      obtain ⟨rfl, rfl, rfl⟩ := hcs
      exact ⟨[], .inl ⟨rfl, rfl, rfl, rfl⟩⟩
    · simp [Value.cells] at hcs
      obtain ⟨rfl, rfl, rfl⟩ := hcs
      exact ⟨zs, .inr ⟨_, rfl, hl, hm, by simpa using hz, hcell, hwz⟩⟩
  obtain ⟨a1, rfl, rfl, rfl, w1⟩ := open_int Try.underlying3 (hval 1 3 v1 rfl rfl) h1
  obtain ⟨a2, rfl, rfl, rfl, w2⟩ := open_int Try.underlying3 (hval 2 3 v2 rfl rfl) h2
  obtain ⟨a3, len3, cap3, rfl⟩ := okWide_slice Try.underlying22 (hval 3 22 v3 rfl rfl)
  have k3 := h3
  have lt3 : ∀ x ∈ p3, x.block < W.heap.size := by obtain ⟨m, hm⟩ := k3; exact DataW.trod_lt m _ _ _ hm
  obtain ⟨z3, w3⟩ : ∃ zs, IsRow .u8 W a3 len3 cap3 zs := by
    obtain ⟨fuel, hf⟩ := h3
    rcases open_ints Try.underlying22 Try.underlying5 (by kernel_rfl) hf with ⟨hcs, _⟩ | ⟨x, l, c, zs, hcs, _, hl, hm, hz, _, hcell, hwz⟩
    · simp [Value.cells] at hcs
      obtain ⟨rfl, rfl, rfl⟩ := hcs
      exact ⟨[], .inl ⟨rfl, rfl, rfl, rfl⟩⟩
    · simp [Value.cells] at hcs
      obtain ⟨rfl, rfl, rfl⟩ := hcs
      exact ⟨zs, .inr ⟨_, rfl, hl, hm, by simpa using hz, hcell, hwz⟩⟩
  clear hA0 hval0
  refine (walk a0 len0 cap0 z0 a1 a2 a3 len3 cap3 z3 W w0 w1 w2 w3).mono fun e W' ⟨he, bel⟩ => ?_
  subst he
  exact ⟨_, rfl, _, _, _, [], _, [], hW', trodAll_mk1 (shut_bool Try.underlying4 _), (trodAll_cons_mk (Below.trod laidOut (by kernel_rfl) (of_decide_eq_true (by kernel_rfl)) k0 bel lt0) (trodAll_cons_mk (shut_int Try.underlying3 w1) (trodAll_cons_mk (shut_int Try.underlying3 w2) (trodAll_cons_mk (Below.trod laidOut (by kernel_rfl) (of_decide_eq_true (by kernel_rfl)) k3 bel lt3) trodAll_mk0)))), rfl, bel.frame _, fun h => by cases h⟩

theorem over : Rows.flowBadRow.holds Try.pinned (OpenSpec.ofChange Rows.flowBadSpec) :=
  OpenClaim.holds_of_wide 8 Try.f8 rfl rfl rfl rfl rfl rfl rfl ⟨rfl, rfl, rfl, rfl, rfl⟩ rfl rfl rfl rfl rfl (by kernel_rfl) Try.func8 (by kernel_rfl)
    (of_decide_eq_true (by kernel_rfl)) (by unfold Func.isWrapper; first | (rw [if_pos (by decide +kernel)]; kernel_rfl) | (rw [if_neg (by decide +kernel)]; exact ⟨rfl, rfl⟩))
    (fun os started H enc _ => lifted os started H enc)

/-- ████ THE STATEMENT ████ -/
theorem proved : Rows.FlowBadSaid := over
#print axioms proved
end Go.Proofs.Ythmendcdfhlkkaa.flowBad

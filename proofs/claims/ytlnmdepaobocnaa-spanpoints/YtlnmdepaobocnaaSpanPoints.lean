/- Proved: for every list of ints and every two ints, busbarlaw12.SpanPoints returns true. Conditions: none. -/
import Derived.Test.YtlnmdepaobocnaaSRun
namespace Go.Proofs.Ytlnmdepaobocnaa.spanPoints
open Go.ChangeShapes Go.WideShapes Go.ChangeAt Go.RowKit
open Go.ChangeMaps (open_string shut_string)
set_option linter.unusedVariables false


theorem pt_bool (p : Prop) : ∃ b : Bool, b = true ↔ p := by
  by_cases h : p
  · exact ⟨true, by simp [h]⟩
  · exact ⟨false, by simp [h]⟩
theorem has_one (s : Sp) (t a : Int) : hasS [s] t a ↔ inS s t a := by
  rw [hasS_cons]
  exact ⟨fun h => h.elim id fun h => absurd h (hasS_nil _ _), .inl⟩

set_option maxRecDepth 100000 in
set_option maxHeartbeats 8000000 in
theorem points_no (A : Option Addr) (n c : Nat) (zs : List Int) (k at_ dd : Int) (w : World) (hr : Row .i64 w w.heap.size A n zs) (hz : In64S zs) (k0 : -9223372036854775808 ≤ k) (k1 : k ≤ 9223372036854775807) (l0 : -9223372036854775808 ≤ at_) (l1 : at_ ≤ 9223372036854775807) (hdd : (at_.tdiv 1024) % 2 = dd) (hd0 : ¬ dd = 0) :
    Calls Try.prog 6 #[.slice A n c, .int .i64 k, .int .i64 at_] w fun e w' => e = .returned (.bool true) ∧ Below w.heap.size w w' := by
  have HR := Lib.hid hr
  have HZ := Lib.hid hz
  have HSR := Lib.hid (spOf_right k)
  have CS := Lib.hid (fun W => lspan_any k W k0 k1)
  have CK := Lib.hid (fun W => lkey12_any at_ W l0 l1)
  have CD := Lib.hid (fun W => digit_lit12 at_ 1024 2 dd W hdd l0 l1 (by omega) (by omega) (by omega) (by omega))
  obtain ⟨d2, hd2⟩ : ∃ a, (at_.tdiv 2048) % 4 = a := ⟨_, rfl⟩
  have CE := Lib.hid (fun W => digit_lit12 at_ 2048 4 d2 W hd2 l0 l1 (by omega) (by omega) (by omega) (by omega))
  have hd3 : 0 ≤ d2 := by omega
  have hd4 : d2 < 4 := by omega
  obtain ⟨⟨t, f, u⟩, hs⟩ : ∃ s, spOf k = s := ⟨_, rfl⟩
  rw [hs] at HSR CS
  have hq := HSR.out
  unfold rightS at hq
  dsimp only at hq
  obtain ⟨q1, q2, q3, q4, q5⟩ := hq
  clear hr hz hs k0 k1 l0 l1 hd2 hdd
  go_enter Try.func6, Try.ntmps6
  go_wp2_with (first
    | (go_at_call 9; refine (awake12_any _).mono ?_; rintro e w1 ⟨rfl, hb⟩; have HB1 := Lib.hid hb; clear hb)
    | (go_at_call 16
       (with_reducible refine (lspans_any A n c zs w1 ((HR.out.below HB1.out).more HB1.out.size) HZ.out).mono ?_)
       rintro e w2 ⟨⟨B, m, d, l, rfl, ho, hc, hm⟩, hb⟩
       have HB2 := Lib.hid (HB1.out.trans (hb.mono HB1.out.size))
       have HO2 := Lib.hid ho
       have HC := Lib.hid hc
       have HMD := Lib.hid ho.cap
       have HLL := Lib.hid ho.len
       clear hb ho hc)
    | (go_at_call 19
       (with_reducible refine (CS.out _).mono ?_)
       rintro e w3 ⟨rfl, hb⟩
       have HB3 := Lib.hid (HB2.out.trans (hb.mono HB2.out.size))
       have HL3 := Lib.hid (HO2.out.at_sl hb)
       clear hb)
    | (go_at_call 25
       (with_reducible refine (CK.out _).mono ?_)
       rintro e w4 ⟨⟨kt0, ka0, rfl, ka1, ka2⟩, hb⟩
       have HB4 := Lib.hid (HB3.out.trans (hb.mono HB3.out.size))
       have HL4 := Lib.hid (HL3.out.below hb)
       have hxA : WholeV (w4.alloc (.cells #[.int .i64 t, .int .i64 f, .int .i64 u] 23)) w4.heap.size 23 [.int .i64 t, .int .i64 f, .int .i64 u] := heap_alloc_new w4 _
       have hal : Below w4.heap.size w4 (w4.alloc (.cells #[.int .i64 t, .int .i64 f, .int .i64 u] 23)) := (Below.refl _ _).alloc (Nat.le_refl _) _
       have hal2 : Below (w4.alloc (.cells #[.int .i64 t, .int .i64 f, .int .i64 u] 23)).heap.size (w4.alloc (.cells #[.int .i64 t, .int .i64 f, .int .i64 u] 23)) ((w4.alloc (.cells #[.int .i64 t, .int .i64 f, .int .i64 u] 23)).alloc (.cells #[.int .i64 kt0, .int .i64 ka0] 39)) := (Below.refl _ _).alloc (Nat.le_refl _) _
       have hxB := hxA.below hal2 hxA.lt
       have hkB : WholeV ((w4.alloc (.cells #[.int .i64 t, .int .i64 f, .int .i64 u] 23)).alloc (.cells #[.int .i64 kt0, .int .i64 ka0] 39)) (w4.alloc (.cells #[.int .i64 t, .int .i64 f, .int .i64 u] 23)).heap.size 39 [.int .i64 kt0, .int .i64 ka0] := heap_alloc_new _ _
       have hbb := hal.trans (hal2.mono hal.size)
       have HXB := Lib.hid hxB
       have HKB := Lib.hid hkB
       have HBB := Lib.hid hbb
       clear hb hxA hal hal2 hxB hkB hbb)
    | (go_at_call 17; (with_reducible refine (CD.out _).mono ?_); rintro e w' ⟨rfl, rfl⟩))
  have e1 : (w4.alloc (.cells #[.int .i64 t, .int .i64 f, .int .i64 u] 23)).heap.size = w4.heap.size + 1 := by simp
  have hkB := HKB.out
  have hxB := HXB.out
  have hbb := HBB.out
  rw [e1] at hkB
  clear HKB HXB HBB e1
  have HB5 := Lib.hid (HB4.out.trans (hbb.mono HB4.out.size))
  have HL5 := Lib.hid (HL4.out.below hbb)
  obtain ⟨g, hg⟩ : ∃ g, w4.heap.size = g := ⟨_, rfl⟩
  obtain ⟨U, hU⟩ : ∃ U, (w4.alloc (.cells #[.int .i64 t, .int .i64 f, .int .i64 u] 23)).alloc (.cells #[.int .i64 kt0, .int .i64 ka0] 39) = U := ⟨_, rfl⟩
  rw [hU] at hkB hxB hbb HB5 HL5 ⊢
  rw [hg] at hkB hxB ⊢
  obtain ⟨gk, hgk⟩ : ∃ x, g + 1 = x := ⟨_, rfl⟩
  rw [hgk] at hkB ⊢
  have HGK := Lib.hid (hgk : g + 1 = gk)
  have HGW := Lib.hid (show w.heap.size ≤ g by rw [← hg]; exact HB4.out.size)
  have HLG : Hid (RowV U g B (3 * m) (sps l)) := Lib.hid (by have h := RowV.below HL4.out hbb; rwa [hg] at h)
  clear hbb hg hU hgk
  obtain ⟨kt, hkt⟩ : ∃ x, kt0 = x := ⟨_, rfl⟩
  obtain ⟨ka, hka⟩ : ∃ x, ka0 = x := ⟨_, rfl⟩
  rw [hkt, hka] at hkB
  have ka3 : 0 ≤ ka := by omega
  have ka4 : ka ≤ 70000 := by omega
  obtain ⟨V, hV⟩ : ∃ V, U = V := ⟨_, rfl⟩
  rw [hV] at hkB hxB HB5 HL5 ⊢
  have HBV := HB5
  have HLV : Hid (∀ X, Below V.heap.size V X → SL X B m l) := Lib.hid fun X hX => HL5.out.below hX
  have HWV : Hid (∀ X, Below V.heap.size V X → WholeV X g 23 [.int .i64 t, .int .i64 f, .int .i64 u]) := Lib.hid fun X hX => hxB.below hX hxB.lt
  have HKV : Hid (∀ X, Below V.heap.size V X → WholeV X gk 39 [.int .i64 kt, .int .i64 ka]) := Lib.hid fun X hX => hkB.below hX hkB.lt
  clear hkt hka hV hkB hxB HL5 HB5
  have KS : Hid (∀ X, Below V.heap.size V X → X.cell? ⟨g, 0, none⟩ = some (.int .i64 t) ∧ X.cell? ⟨g, 1, none⟩ = some (.int .i64 f) ∧ X.cell? ⟨g, 2, none⟩ = some (.int .i64 u) ∧ X.cell? ⟨gk, 0, none⟩ = some (.int .i64 kt) ∧ X.cell? ⟨gk, 1, none⟩ = some (.int .i64 ka) ∧ Below V.heap.size V X) := Lib.hid fun X hX => ⟨(HWV.out X hX).cell 0, (HWV.out X hX).cell 1, (HWV.out X hX).cell 2, (HKV.out X hX).cell 0, (HKV.out X hX).cell 1, hX⟩
  have KB : Hid (∀ X, (X.cell? ⟨g, 0, none⟩ = some (.int .i64 t) ∧ X.cell? ⟨g, 1, none⟩ = some (.int .i64 f) ∧ X.cell? ⟨g, 2, none⟩ = some (.int .i64 u) ∧ X.cell? ⟨gk, 0, none⟩ = some (.int .i64 kt) ∧ X.cell? ⟨gk, 1, none⟩ = some (.int .i64 ka) ∧ Below V.heap.size V X) → Below V.heap.size V X) := Lib.hid fun X hs => hs.2.2.2.2.2
  have KT : Hid (∀ X X', (X.cell? ⟨g, 0, none⟩ = some (.int .i64 t) ∧ X.cell? ⟨g, 1, none⟩ = some (.int .i64 f) ∧ X.cell? ⟨g, 2, none⟩ = some (.int .i64 u) ∧ X.cell? ⟨gk, 0, none⟩ = some (.int .i64 kt) ∧ X.cell? ⟨gk, 1, none⟩ = some (.int .i64 ka) ∧ Below V.heap.size V X) → Below X.heap.size X X' → X'.cell? ⟨g, 0, none⟩ = some (.int .i64 t) ∧ X'.cell? ⟨g, 1, none⟩ = some (.int .i64 f) ∧ X'.cell? ⟨g, 2, none⟩ = some (.int .i64 u) ∧ X'.cell? ⟨gk, 0, none⟩ = some (.int .i64 kt) ∧ X'.cell? ⟨gk, 1, none⟩ = some (.int .i64 ka) ∧ Below V.heap.size V X') := Lib.hid fun X X' hs hb => KS.out _ (hs.2.2.2.2.2.trans (hb.mono hs.2.2.2.2.2.size))
  obtain ⟨b1, hb1⟩ := pt_bool (hasS l kt ka)
  obtain ⟨b2, hb2⟩ := pt_bool (hasS [(t, f, u)] kt ka)
  have hbA : (b1 || b2) = true ↔ hasS (addS l (t, f, u)) kt ka := by
    rw [addS_has HC.out HSR.out, ← hb1, ← has_one, ← hb2, Bool.or_eq_true]
  have hbC : (b1 && !b2) = true ↔ hasS (cutS l (t, f, u)) kt ka := by
    rw [cutS_has, ← hb1, ← has_one, ← hb2, Bool.and_eq_true, Bool.not_eq_true', Bool.not_eq_true]
  have hla := addS_len l (t, f, u)
  have hlc := cutS_len l (t, f, u)
  have hll := HLL.out
  have HH1 : Hid (∀ X, Below V.heap.size V X → Calls Try.prog 26 #[.slice B m d, .agg #[.int .i64 kt, .int .i64 ka]] X fun e w' => e = .returned (.bool b1) ∧ Below X.heap.size X w') := Lib.hid fun X hX => phas_any B m d l kt ka b1 X (HLV.out X hX) (by omega) HMD.out HC.out hb1 (by omega) (by omega)
  have HH2 : Hid (∀ (X : World) (b : Nat), SL X (some ⟨b, 0, none⟩) 1 [(t, f, u)] → Calls Try.prog 26 #[.slice (some ⟨b, 0, none⟩) 1 1, .agg #[.int .i64 kt, .int .i64 ka]] X fun e w' => e = .returned (.bool b2) ∧ Below X.heap.size X w') := Lib.hid fun X b hX => phas_any _ 1 1 [(t, f, u)] kt ka b2 X hX (by omega) (by omega) (canon_lit _ _ _ HSR.out) hb2 (by omega) (by omega)
  have HCA : Hid (∀ X, Below V.heap.size V X → Calls Try.prog 20 #[.slice B m d, .agg #[.int .i64 t, .int .i64 f, .int .i64 u]] X fun e w' => (∃ B' m' d', e = .returned (.slice B' m' d') ∧ SO w' X.heap.size (.slice B' m' d') m' (addS l (t, f, u))) ∧ Below X.heap.size X w') := Lib.hid fun X hX => padd_any B m d l t f u X (HLV.out X hX) (by omega) HMD.out HC.out HSR.out
  have HCT : Hid (∀ X, Below V.heap.size V X → Calls Try.prog 21 #[.slice B m d, .agg #[.int .i64 t, .int .i64 f, .int .i64 u]] X fun e w' => (∃ B' m' d', e = .returned (.slice B' m' d') ∧ SO w' X.heap.size (.slice B' m' d') m' (cutS l (t, f, u))) ∧ Below X.heap.size X w') := Lib.hid fun X hX => pcut_any B m d l t f u X (HLV.out X hX) (by omega) HMD.out HC.out HSR.out
  have HHA : Hid (∀ (X : World) (B' : Option Addr) (m' d' b : Nat), SO X b (.slice B' m' d') m' (addS l (t, f, u)) → Calls Try.prog 26 #[.slice B' m' d', .agg #[.int .i64 kt, .int .i64 ka]] X fun e w' => e = .returned (.bool (b1 || b2)) ∧ Below X.heap.size X w') := Lib.hid fun X B' m' d' b ho => phas_any B' m' d' _ kt ka _ X ho.sl (by have := ho.len; omega) ho.cap (addS_canon HC.out HSR.out) hbA (by omega) (by omega)
  have HHC : Hid (∀ (X : World) (B' : Option Addr) (m' d' b : Nat), SO X b (.slice B' m' d') m' (cutS l (t, f, u)) → Calls Try.prog 26 #[.slice B' m' d', .agg #[.int .i64 kt, .int .i64 ka]] X fun e w' => e = .returned (.bool (b1 && !b2)) ∧ Below X.heap.size X w') := Lib.hid fun X B' m' d' b ho => phas_any B' m' d' _ kt ka _ X ho.sl (by have := ho.len; omega) ho.cap (cutS_canon HC.out HSR.out) hbC (by omega) (by omega)
  clear hb1 hb2 hbA hbC hla hlc hll
  go_region_held3 (fun X => X.cell? ⟨g, 0, none⟩ = some (.int .i64 t) ∧ X.cell? ⟨g, 1, none⟩ = some (.int .i64 f) ∧ X.cell? ⟨g, 2, none⟩ = some (.int .i64 u) ∧ X.cell? ⟨gk, 0, none⟩ = some (.int .i64 kt) ∧ X.cell? ⟨gk, 1, none⟩ = some (.int .i64 ka) ∧ Below V.heap.size V X)
    (first
      | assumption
      | exact KS.out _ (Below.refl _ _).drew
      | exact KT.out _ _ (by assumption) hbH
      | exact KT.out _ _ (by assumption) hbI
      | exact KT.out _ _ (by assumption) ((Below.refl _ _).alloc (Nat.le_refl _) _))
    (first
      | (go_at_call 26
         (with_reducible refine (HH1.out _ (KB.out _ ?_)).mono ?_)
         · assumption
         rintro e wH ⟨rfl, hbH⟩)
      | (go_at_call 26
         (with_reducible refine (HH2.out _ _ ?_).mono ?_)
         · first | exact sl_one V t f u 23 | exact sl_one _ t f u _ | exact (sl_one V t f u 23).below (below_from (d := 1) hbH) | exact (sl_one _ t f u _).below hbH
         rintro e wI ⟨rfl, hbI⟩))
  all_goals
    have hvx := KB.out _ (by assumption)
    obtain ⟨v0, v1, v2, v3, v4, _⟩ := KS.out _ hvx
    go_wp2
    cases b1 <;> cases b2
    all_goals
      simp only [Bool.false_or, Bool.true_or, Bool.false_and, Bool.true_and, Bool.not_false, Bool.not_true] at HHA HHC
      first
        | (go_region_held (fun X => X.cell? ⟨g, 0, none⟩ = some (.int .i64 t) ∧ X.cell? ⟨g, 1, none⟩ = some (.int .i64 f) ∧ X.cell? ⟨g, 2, none⟩ = some (.int .i64 u) ∧ X.cell? ⟨gk, 0, none⟩ = some (.int .i64 kt) ∧ X.cell? ⟨gk, 1, none⟩ = some (.int .i64 ka) ∧ Below V.heap.size V X)
            (first
              | assumption
              | exact KS.out _ hvx.drew
              | exact KT.out _ _ (by assumption) kA
              | exact KT.out _ _ (by assumption) kB
              | exact KT.out _ _ (by assumption) kC
              | exact KT.out _ _ (by assumption) kD)
            (first
              | (go_at_call 20
                 (with_reducible refine (HCA.out _ (KB.out _ ?_)).mono ?_)
                 · assumption
                 rintro e wA ⟨⟨BA, mA, dA, rfl, hoA⟩, kA⟩)
              | (go_at_call 26
                 (with_reducible refine (HHA.out _ _ _ _ _ hoA).mono ?_)
                 rintro e wB ⟨rfl, kB⟩)
              | (go_at_call 21
                 (with_reducible refine (HCT.out _ (KB.out _ ?_)).mono ?_)
                 · assumption
                 rintro e wC ⟨⟨BC, mC, dC, rfl, hoC⟩, kC⟩)
              | (go_at_call 26
                 (with_reducible refine (HHC.out _ _ _ _ _ hoC).mono ?_)
                 rintro e wD ⟨rfl, kD⟩))
           all_goals
             have hvy := KB.out _ (by assumption)
             go_wp2
             go_ret
             exact ⟨rfl, HBV.out.trans (hvy.mono HBV.out.size)⟩)
        | (fail "no")
set_option maxRecDepth 100000 in
set_option maxHeartbeats 8000000 in
theorem points_yes (A : Option Addr) (n c : Nat) (zs : List Int) (k at_ dd : Int) (w : World) (hr : Row .i64 w w.heap.size A n zs) (hz : In64S zs) (k0 : -9223372036854775808 ≤ k) (k1 : k ≤ 9223372036854775807) (l0 : -9223372036854775808 ≤ at_) (l1 : at_ ≤ 9223372036854775807) (hdd : (at_.tdiv 1024) % 2 = dd) (hd0 : dd = 0) :
    Calls Try.prog 6 #[.slice A n c, .int .i64 k, .int .i64 at_] w fun e w' => e = .returned (.bool true) ∧ Below w.heap.size w w' := by
  have HR := Lib.hid hr
  have HZ := Lib.hid hz
  have HSR := Lib.hid (spOf_right k)
  have CS := Lib.hid (fun W => lspan_any k W k0 k1)
  have CK := Lib.hid (fun W => lkey12_any at_ W l0 l1)
  have CD := Lib.hid (fun W => digit_lit12 at_ 1024 2 dd W hdd l0 l1 (by omega) (by omega) (by omega) (by omega))
  obtain ⟨d2, hd2⟩ : ∃ a, (at_.tdiv 2048) % 4 = a := ⟨_, rfl⟩
  have CE := Lib.hid (fun W => digit_lit12 at_ 2048 4 d2 W hd2 l0 l1 (by omega) (by omega) (by omega) (by omega))
  have hd3 : 0 ≤ d2 := by omega
  have hd4 : d2 < 4 := by omega
  obtain ⟨⟨t, f, u⟩, hs⟩ : ∃ s, spOf k = s := ⟨_, rfl⟩
  rw [hs] at HSR CS
  have hq := HSR.out
  unfold rightS at hq
  dsimp only at hq
  obtain ⟨q1, q2, q3, q4, q5⟩ := hq
  clear hr hz hs k0 k1 l0 l1 hd2 hdd
  subst hd0
  go_enter Try.func6, Try.ntmps6
  go_wp2_with (first
    | (go_at_call 9; refine (awake12_any _).mono ?_; rintro e w1 ⟨rfl, hb⟩; have HB1 := Lib.hid hb; clear hb)
    | (go_at_call 16
       (with_reducible refine (lspans_any A n c zs w1 ((HR.out.below HB1.out).more HB1.out.size) HZ.out).mono ?_)
       rintro e w2 ⟨⟨B, m, d, l, rfl, ho, hc, hm⟩, hb⟩
       have HB2 := Lib.hid (HB1.out.trans (hb.mono HB1.out.size))
       have HO2 := Lib.hid ho
       have HC := Lib.hid hc
       have HMD := Lib.hid ho.cap
       have HLL := Lib.hid ho.len
       clear hb ho hc)
    | (go_at_call 19
       (with_reducible refine (CS.out _).mono ?_)
       rintro e w3 ⟨rfl, hb⟩
       have HB3 := Lib.hid (HB2.out.trans (hb.mono HB2.out.size))
       have HL3 := Lib.hid (HO2.out.at_sl hb)
       clear hb)
    | (go_at_call 25
       (with_reducible refine (CK.out _).mono ?_)
       rintro e w4 ⟨⟨kt0, ka0, rfl, ka1, ka2⟩, hb⟩
       have HB4 := Lib.hid (HB3.out.trans (hb.mono HB3.out.size))
       have HL4 := Lib.hid (HL3.out.below hb)
       have hxA : WholeV (w4.alloc (.cells #[.int .i64 t, .int .i64 f, .int .i64 u] 23)) w4.heap.size 23 [.int .i64 t, .int .i64 f, .int .i64 u] := heap_alloc_new w4 _
       have hal : Below w4.heap.size w4 (w4.alloc (.cells #[.int .i64 t, .int .i64 f, .int .i64 u] 23)) := (Below.refl _ _).alloc (Nat.le_refl _) _
       have hal2 : Below (w4.alloc (.cells #[.int .i64 t, .int .i64 f, .int .i64 u] 23)).heap.size (w4.alloc (.cells #[.int .i64 t, .int .i64 f, .int .i64 u] 23)) ((w4.alloc (.cells #[.int .i64 t, .int .i64 f, .int .i64 u] 23)).alloc (.cells #[.int .i64 kt0, .int .i64 ka0] 39)) := (Below.refl _ _).alloc (Nat.le_refl _) _
       have hxB := hxA.below hal2 hxA.lt
       have hkB : WholeV ((w4.alloc (.cells #[.int .i64 t, .int .i64 f, .int .i64 u] 23)).alloc (.cells #[.int .i64 kt0, .int .i64 ka0] 39)) (w4.alloc (.cells #[.int .i64 t, .int .i64 f, .int .i64 u] 23)).heap.size 39 [.int .i64 kt0, .int .i64 ka0] := heap_alloc_new _ _
       have hbb := hal.trans (hal2.mono hal.size)
       have HXB := Lib.hid hxB
       have HKB := Lib.hid hkB
       have HBB := Lib.hid hbb
       clear hb hxA hal hal2 hxB hkB hbb)
    | (go_at_call 17; (with_reducible refine (CD.out _).mono ?_); rintro e w' ⟨rfl, rfl⟩))
  have e1 : (w4.alloc (.cells #[.int .i64 t, .int .i64 f, .int .i64 u] 23)).heap.size = w4.heap.size + 1 := by simp
  have hkB := HKB.out
  have hxB := HXB.out
  have hbb := HBB.out
  rw [e1] at hkB
  clear HKB HXB HBB e1
  have HB5 := Lib.hid (HB4.out.trans (hbb.mono HB4.out.size))
  have HL5 := Lib.hid (HL4.out.below hbb)
  obtain ⟨g, hg⟩ : ∃ g, w4.heap.size = g := ⟨_, rfl⟩
  obtain ⟨U, hU⟩ : ∃ U, (w4.alloc (.cells #[.int .i64 t, .int .i64 f, .int .i64 u] 23)).alloc (.cells #[.int .i64 kt0, .int .i64 ka0] 39) = U := ⟨_, rfl⟩
  rw [hU] at hkB hxB hbb HB5 HL5 ⊢
  rw [hg] at hkB hxB ⊢
  obtain ⟨gk, hgk⟩ : ∃ x, g + 1 = x := ⟨_, rfl⟩
  rw [hgk] at hkB ⊢
  have HGK := Lib.hid (hgk : g + 1 = gk)
  have HGW := Lib.hid (show w.heap.size ≤ g by rw [← hg]; exact HB4.out.size)
  have HLG : Hid (RowV U g B (3 * m) (sps l)) := Lib.hid (by have h := RowV.below HL4.out hbb; rwa [hg] at h)
  clear hbb hg hU hgk
  have v0 : U.cell? ⟨g, 0, none⟩ = some (.int .i64 t) := hxB.cell 0
  have v1 : U.cell? ⟨g, 1, none⟩ = some (.int .i64 f) := hxB.cell 1
  have z0 : U.cell? ⟨gk, 0, none⟩ = some (.int .i64 kt0) := hkB.cell 0
  have z1 : U.cell? ⟨gk, 1, none⟩ = some (.int .i64 ka0) := hkB.cell 1
  have fz0 : U.frozen? ⟨gk, 0, none⟩ = false := hkB.frozen 0
  have fz1 : U.frozen? ⟨gk, 1, none⟩ = false := hkB.frozen 1
  have HXB := Lib.hid hxB
  have HKB := Lib.hid hkB
  have hne : gk ≠ g := by have := HGK.out; omega
  clear hxB hkB
  go_region_held3 (fun X => X.cell? ⟨g, 0, none⟩ = some (.int .i64 t) ∧ X.cell? ⟨g, 1, none⟩ = some (.int .i64 f))
    (first
      | assumption
      | exact ⟨v0, v1⟩
      | exact ⟨(World.cell?_setCell_far _ _ _ _ hne).trans ((World.cell?_setCell_far _ _ _ _ hne).trans v0), (World.cell?_setCell_far _ _ _ _ hne).trans ((World.cell?_setCell_far _ _ _ _ hne).trans v1)⟩)
    (first
      | (go_at_call 17; (with_reducible refine (CE.out _).mono ?_); rintro e w' ⟨rfl, rfl⟩))
  have hf1 : f ≤ 65535 := by omega
  have hw1 : IntKind.i64.wrap (f + d2) = f + d2 := IntWalk.i64_in _ (by omega)
  have hw2 : IntKind.i64.wrap (f + d2 - 2) = f + d2 - 2 := IntWalk.i64_in _ (by omega)
  rw [hw1, hw2]
  obtain ⟨ka, hka⟩ : ∃ x, f + d2 - 2 = x := ⟨_, rfl⟩
  rw [hka]
  have ka3 : -2 ≤ ka := by omega
  have ka4 : ka ≤ 70000 := by omega
  clear hw1 hw2
  have hk1 := (HKB.out.set 0 (.int .i64 t)).set 1 (.int .i64 ka)
  have hoff := (((Off.refl (fun i => i = gk) U).setCell (p := ⟨gk, 0, none⟩) (.inl rfl) (.int .i64 t)).setCell (p := ⟨gk, 1, none⟩) (.inl rfl) (.int .i64 ka)).drew
  have hw1 := hoff.whole HXB.out (Ne.symm hne)
  have hgu : g < U.heap.size := HXB.out.lt
  have hlg : RowV ((U.setCell ⟨gk, 0, none⟩ (.int .i64 t)).setCell ⟨gk, 1, none⟩ (.int .i64 ka)).drew g B (3 * m) (sps l) := HLG.out.keep fun p hp => hoff.cell (Nat.lt_trans hp hgu) (fun e => by have := HGK.out; omega)
  have hbv : Below w.heap.size w ((U.setCell ⟨gk, 0, none⟩ (.int .i64 t)).setCell ⟨gk, 1, none⟩ (.int .i64 ka)).drew := ((HB5.out.setCell (p := ⟨gk, 0, none⟩) (show w.heap.size ≤ gk by have := HGK.out; have := HGW.out; omega) (.int .i64 t)).setCell (p := ⟨gk, 1, none⟩) (show w.heap.size ≤ gk by have := HGK.out; have := HGW.out; omega) (.int .i64 ka)).drew
  obtain ⟨V, hV⟩ : ∃ V, ((U.setCell ⟨gk, 0, none⟩ (.int .i64 t)).setCell ⟨gk, 1, none⟩ (.int .i64 ka)).drew = V := ⟨_, rfl⟩
  have hkB : WholeV V gk 39 [.int .i64 t, .int .i64 ka] := by rw [← hV]; exact hk1
  rw [hV] at hw1 hlg hbv ⊢
  have hl5 : SL V B m l := hlg.more (Nat.le_of_lt hw1.lt)
  obtain ⟨kt, hkt⟩ : ∃ x, t = x := ⟨_, rfl⟩
  have hkC := hkB
  rw [hkt] at hkC
  have HBV := Lib.hid hbv
  have HLV : Hid (∀ X, Below V.heap.size V X → SL X B m l) := Lib.hid fun X hX => hl5.below hX
  have HWV : Hid (∀ X, Below V.heap.size V X → WholeV X g 23 [.int .i64 t, .int .i64 f, .int .i64 u]) := Lib.hid fun X hX => hw1.below hX hw1.lt
  have HKV : Hid (∀ X, Below V.heap.size V X → WholeV X gk 39 [.int .i64 kt, .int .i64 ka]) := Lib.hid fun X hX => hkC.below hX hkC.lt
  clear v0 v1 z0 z1 fz0 fz1 hw1 hlg hbv hl5 hkB hkC hoff hk1 hV HLG HL5 HB5 HXB HKB hkt
  go_wp2
  have KS : Hid (∀ X, Below V.heap.size V X → X.cell? ⟨g, 0, none⟩ = some (.int .i64 t) ∧ X.cell? ⟨g, 1, none⟩ = some (.int .i64 f) ∧ X.cell? ⟨g, 2, none⟩ = some (.int .i64 u) ∧ X.cell? ⟨gk, 0, none⟩ = some (.int .i64 kt) ∧ X.cell? ⟨gk, 1, none⟩ = some (.int .i64 ka) ∧ Below V.heap.size V X) := Lib.hid fun X hX => ⟨(HWV.out X hX).cell 0, (HWV.out X hX).cell 1, (HWV.out X hX).cell 2, (HKV.out X hX).cell 0, (HKV.out X hX).cell 1, hX⟩
  have KB : Hid (∀ X, (X.cell? ⟨g, 0, none⟩ = some (.int .i64 t) ∧ X.cell? ⟨g, 1, none⟩ = some (.int .i64 f) ∧ X.cell? ⟨g, 2, none⟩ = some (.int .i64 u) ∧ X.cell? ⟨gk, 0, none⟩ = some (.int .i64 kt) ∧ X.cell? ⟨gk, 1, none⟩ = some (.int .i64 ka) ∧ Below V.heap.size V X) → Below V.heap.size V X) := Lib.hid fun X hs => hs.2.2.2.2.2
  have KT : Hid (∀ X X', (X.cell? ⟨g, 0, none⟩ = some (.int .i64 t) ∧ X.cell? ⟨g, 1, none⟩ = some (.int .i64 f) ∧ X.cell? ⟨g, 2, none⟩ = some (.int .i64 u) ∧ X.cell? ⟨gk, 0, none⟩ = some (.int .i64 kt) ∧ X.cell? ⟨gk, 1, none⟩ = some (.int .i64 ka) ∧ Below V.heap.size V X) → Below X.heap.size X X' → X'.cell? ⟨g, 0, none⟩ = some (.int .i64 t) ∧ X'.cell? ⟨g, 1, none⟩ = some (.int .i64 f) ∧ X'.cell? ⟨g, 2, none⟩ = some (.int .i64 u) ∧ X'.cell? ⟨gk, 0, none⟩ = some (.int .i64 kt) ∧ X'.cell? ⟨gk, 1, none⟩ = some (.int .i64 ka) ∧ Below V.heap.size V X') := Lib.hid fun X X' hs hb => KS.out _ (hs.2.2.2.2.2.trans (hb.mono hs.2.2.2.2.2.size))
  obtain ⟨b1, hb1⟩ := pt_bool (hasS l kt ka)
  obtain ⟨b2, hb2⟩ := pt_bool (hasS [(t, f, u)] kt ka)
  have hbA : (b1 || b2) = true ↔ hasS (addS l (t, f, u)) kt ka := by
    rw [addS_has HC.out HSR.out, ← hb1, ← has_one, ← hb2, Bool.or_eq_true]
  have hbC : (b1 && !b2) = true ↔ hasS (cutS l (t, f, u)) kt ka := by
    rw [cutS_has, ← hb1, ← has_one, ← hb2, Bool.and_eq_true, Bool.not_eq_true', Bool.not_eq_true]
  have hla := addS_len l (t, f, u)
  have hlc := cutS_len l (t, f, u)
  have hll := HLL.out
  have HH1 : Hid (∀ X, Below V.heap.size V X → Calls Try.prog 26 #[.slice B m d, .agg #[.int .i64 kt, .int .i64 ka]] X fun e w' => e = .returned (.bool b1) ∧ Below X.heap.size X w') := Lib.hid fun X hX => phas_any B m d l kt ka b1 X (HLV.out X hX) (by omega) HMD.out HC.out hb1 (by omega) (by omega)
  have HH2 : Hid (∀ (X : World) (b : Nat), SL X (some ⟨b, 0, none⟩) 1 [(t, f, u)] → Calls Try.prog 26 #[.slice (some ⟨b, 0, none⟩) 1 1, .agg #[.int .i64 kt, .int .i64 ka]] X fun e w' => e = .returned (.bool b2) ∧ Below X.heap.size X w') := Lib.hid fun X b hX => phas_any _ 1 1 [(t, f, u)] kt ka b2 X hX (by omega) (by omega) (canon_lit _ _ _ HSR.out) hb2 (by omega) (by omega)
  have HCA : Hid (∀ X, Below V.heap.size V X → Calls Try.prog 20 #[.slice B m d, .agg #[.int .i64 t, .int .i64 f, .int .i64 u]] X fun e w' => (∃ B' m' d', e = .returned (.slice B' m' d') ∧ SO w' X.heap.size (.slice B' m' d') m' (addS l (t, f, u))) ∧ Below X.heap.size X w') := Lib.hid fun X hX => padd_any B m d l t f u X (HLV.out X hX) (by omega) HMD.out HC.out HSR.out
  have HCT : Hid (∀ X, Below V.heap.size V X → Calls Try.prog 21 #[.slice B m d, .agg #[.int .i64 t, .int .i64 f, .int .i64 u]] X fun e w' => (∃ B' m' d', e = .returned (.slice B' m' d') ∧ SO w' X.heap.size (.slice B' m' d') m' (cutS l (t, f, u))) ∧ Below X.heap.size X w') := Lib.hid fun X hX => pcut_any B m d l t f u X (HLV.out X hX) (by omega) HMD.out HC.out HSR.out
  have HHA : Hid (∀ (X : World) (B' : Option Addr) (m' d' b : Nat), SO X b (.slice B' m' d') m' (addS l (t, f, u)) → Calls Try.prog 26 #[.slice B' m' d', .agg #[.int .i64 kt, .int .i64 ka]] X fun e w' => e = .returned (.bool (b1 || b2)) ∧ Below X.heap.size X w') := Lib.hid fun X B' m' d' b ho => phas_any B' m' d' _ kt ka _ X ho.sl (by have := ho.len; omega) ho.cap (addS_canon HC.out HSR.out) hbA (by omega) (by omega)
  have HHC : Hid (∀ (X : World) (B' : Option Addr) (m' d' b : Nat), SO X b (.slice B' m' d') m' (cutS l (t, f, u)) → Calls Try.prog 26 #[.slice B' m' d', .agg #[.int .i64 kt, .int .i64 ka]] X fun e w' => e = .returned (.bool (b1 && !b2)) ∧ Below X.heap.size X w') := Lib.hid fun X B' m' d' b ho => phas_any B' m' d' _ kt ka _ X ho.sl (by have := ho.len; omega) ho.cap (cutS_canon HC.out HSR.out) hbC (by omega) (by omega)
  clear hb1 hb2 hbA hbC hla hlc hll
  go_region_held3 (fun X => X.cell? ⟨g, 0, none⟩ = some (.int .i64 t) ∧ X.cell? ⟨g, 1, none⟩ = some (.int .i64 f) ∧ X.cell? ⟨g, 2, none⟩ = some (.int .i64 u) ∧ X.cell? ⟨gk, 0, none⟩ = some (.int .i64 kt) ∧ X.cell? ⟨gk, 1, none⟩ = some (.int .i64 ka) ∧ Below V.heap.size V X)
    (first
      | assumption
      | exact KS.out _ (Below.refl _ _).drew
      | exact KT.out _ _ (by assumption) hbH
      | exact KT.out _ _ (by assumption) hbI
      | exact KT.out _ _ (by assumption) ((Below.refl _ _).alloc (Nat.le_refl _) _))
    (first
      | (go_at_call 26
         (with_reducible refine (HH1.out _ (KB.out _ ?_)).mono ?_)
         · assumption
         rintro e wH ⟨rfl, hbH⟩)
      | (go_at_call 26
         (with_reducible refine (HH2.out _ _ ?_).mono ?_)
         · first | exact sl_one V t f u 23 | exact sl_one _ t f u _ | exact (sl_one V t f u 23).below (below_from (d := 1) hbH) | exact (sl_one _ t f u _).below hbH
         rintro e wI ⟨rfl, hbI⟩))
  all_goals
    have hvx := KB.out _ (by assumption)
    obtain ⟨v0, v1, v2, v3, v4, _⟩ := KS.out _ hvx
    go_wp2
    cases b1 <;> cases b2
    all_goals
      simp only [Bool.false_or, Bool.true_or, Bool.false_and, Bool.true_and, Bool.not_false, Bool.not_true] at HHA HHC
      first
        | (go_region_held (fun X => X.cell? ⟨g, 0, none⟩ = some (.int .i64 t) ∧ X.cell? ⟨g, 1, none⟩ = some (.int .i64 f) ∧ X.cell? ⟨g, 2, none⟩ = some (.int .i64 u) ∧ X.cell? ⟨gk, 0, none⟩ = some (.int .i64 kt) ∧ X.cell? ⟨gk, 1, none⟩ = some (.int .i64 ka) ∧ Below V.heap.size V X)
            (first
              | assumption
              | exact KS.out _ hvx.drew
              | exact KT.out _ _ (by assumption) kA
              | exact KT.out _ _ (by assumption) kB
              | exact KT.out _ _ (by assumption) kC
              | exact KT.out _ _ (by assumption) kD)
            (first
              | (go_at_call 20
                 (with_reducible refine (HCA.out _ (KB.out _ ?_)).mono ?_)
                 · assumption
                 rintro e wA ⟨⟨BA, mA, dA, rfl, hoA⟩, kA⟩)
              | (go_at_call 26
                 (with_reducible refine (HHA.out _ _ _ _ _ hoA).mono ?_)
                 rintro e wB ⟨rfl, kB⟩)
              | (go_at_call 21
                 (with_reducible refine (HCT.out _ (KB.out _ ?_)).mono ?_)
                 · assumption
                 rintro e wC ⟨⟨BC, mC, dC, rfl, hoC⟩, kC⟩)
              | (go_at_call 26
                 (with_reducible refine (HHC.out _ _ _ _ _ hoC).mono ?_)
                 rintro e wD ⟨rfl, kD⟩))
           all_goals
             have hvy := KB.out _ (by assumption)
             go_wp2
             go_ret
             exact ⟨rfl, HBV.out.trans (hvy.mono HBV.out.size)⟩)
        | (fail "no")
theorem walk (a0 : Option Addr) (len0 cap0 : Nat) (z0 : List Int) (a1 a2 : Int) (w : World) (w0 : IsRow .i64 w a0 len0 cap0 z0) (w1 : (Lit.int .i64 a1).wf = true) (w2 : (Lit.int .i64 a2).wf = true) :
    Calls Try.prog 6 #[.slice a0 len0 cap0, .int .i64 a1, .int .i64 a2] w fun e w' => e = .returned (.bool true) ∧ Below w.heap.size w w' := by
  by_cases hd : (a2.tdiv 1024) % 2 = 0
  · exact points_yes a0 len0 cap0 _ a1 a2 _ w w0.row (fun k hk => bounds_i64 (w0.wf k hk)) (bounds_i64 w1).1 (bounds_i64 w1).2 (bounds_i64 w2).1 (bounds_i64 w2).2 rfl hd
  · exact points_no a0 len0 cap0 _ a1 a2 _ w w0.row (fun k hk => bounds_i64 (w0.wf k hk)) (bounds_i64 w1).1 (bounds_i64 w1).2 (bounds_i64 w2).1 (bounds_i64 w2).2 rfl hd

/-! ### THE ROW's STEP: WRITTEN OUT: LEAVE IT -/
set_option maxRecDepth 100000 in
theorem lifted (os : Os) (started : os.Started) (H : Type) (enc : TypeId × Value → H) :
    ReturnsInHanded {} Try.checked os 6 .any (Rows.spanPointsSpec.pre6 enc Try.prog Try.f6 Rows.spanPointsRow.domain false) (Rows.spanPointsSpec.post enc Try.prog Try.f6 false true false false) := by
  refine returnsInHanded_of_change (C := Try.checked) own started (by kernel_rfl) Try.func6
    (ChangeSpec.witness6 (enc := enc) (C := Try.checked) false ⟨#[], #[.slice none 0 0, .int .i64 0, .int .i64 0], []⟩ 8 (by kernel_rfl) (by kernel_rfl) (by kernel_rfl) (by kernel_rfl)) ?_
  intro W base args ds gs before hval0 hW hcnd _
  have hval : ∀ (j : Nat) t v, Try.f6.params[j]? = some t → args[j]? = some v → Value.okWide Try.prog W .any base t v := hval0
  have hW' := hW
  obtain ⟨p, q, hA0, hV, rfl, hfz, hnd⟩ := hW
  have hA : DataW.TrodAll enc Try.prog W 0 (fun _ => true) true Try.f6.params.toList args.toList ds p := hA0
  rw [Try.params6] at hA hval
  obtain ⟨v0, vs0, d0, ds0, p0, q0, hargs, rfl, rfl, h0, r0⟩ := trodAll_cons hA
  obtain ⟨v1, vs1, d1, ds1, p1, q1, rfl, rfl, rfl, h1, r1⟩ := trodAll_cons r0
  obtain ⟨v2, vs2, d2, ds2, p2, q2, rfl, rfl, rfl, h2, r2⟩ := trodAll_cons r1
  obtain ⟨rfl, rfl, rfl⟩ := trodAll_nil r2
  obtain rfl : args = #[v0, v1, v2] := by cases args; simp_all
  obtain ⟨rfl, rfl⟩ := trodVars_none hV
  obtain ⟨a0, len0, cap0, rfl⟩ := okWide_slice Try.underlying25 (hval 0 25 v0 rfl rfl)
  have k0 := h0
  have lt0 : ∀ x ∈ p0, x.block < W.heap.size := by obtain ⟨m, hm⟩ := k0; exact DataW.trod_lt m _ _ _ hm
  obtain ⟨z0, w0⟩ : ∃ zs, IsRow .i64 W a0 len0 cap0 zs := by
    obtain ⟨fuel, hf⟩ := h0
    rcases open_ints Try.underlying25 Try.underlying3 (by kernel_rfl) hf with ⟨hcs, _⟩ | ⟨x, l, c, zs, hcs, _, hl, hm, hz, _, hcell, hwz⟩
    · simp [Value.cells] at hcs
      obtain ⟨rfl, rfl, rfl⟩ := hcs
      exact ⟨[], .inl ⟨rfl, rfl, rfl, rfl⟩⟩
    · simp [Value.cells] at hcs
      obtain ⟨rfl, rfl, rfl⟩ := hcs
      exact ⟨zs, .inr ⟨_, rfl, hl, hm, by simpa using hz, hcell, hwz⟩⟩
  obtain ⟨a1, rfl, rfl, rfl, w1⟩ := open_int Try.underlying3 (hval 1 3 v1 rfl rfl) h1
  obtain ⟨a2, rfl, rfl, rfl, w2⟩ := open_int Try.underlying3 (hval 2 3 v2 rfl rfl) h2
  clear hA0 hval0
  refine (walk a0 len0 cap0 z0 a1 a2 W w0 w1 w2).mono fun e W' ⟨he, bel⟩ => ?_
  subst he
  exact ⟨_, rfl, _, _, _, [], _, [], hW', trodAll_mk1 (shut_bool Try.underlying4 _), (trodAll_cons_mk (Below.trod laidOut (by kernel_rfl) (of_decide_eq_true (by kernel_rfl)) k0 bel lt0) (trodAll_cons_mk (shut_int Try.underlying3 w1) (trodAll_cons_mk (shut_int Try.underlying3 w2) trodAll_mk0))), rfl, bel.frame _, fun h => by cases h⟩

theorem over : Rows.spanPointsRow.holds Try.pinned (OpenSpec.ofChange Rows.spanPointsSpec) :=
  OpenClaim.holds_of_wide 6 Try.f6 rfl rfl rfl rfl rfl rfl rfl ⟨rfl, rfl, rfl, rfl, rfl⟩ rfl rfl rfl rfl rfl (by kernel_rfl) Try.func6 (by kernel_rfl)
    (of_decide_eq_true (by kernel_rfl)) (by unfold Func.isWrapper; first | (rw [if_pos (by decide +kernel)]; kernel_rfl) | (rw [if_neg (by decide +kernel)]; exact ⟨rfl, rfl⟩))
    (fun os started H enc _ => lifted os started H enc)

/-- ████ THE STATEMENT ████ -/
theorem proved : Rows.SpanPointsSaid := over
#print axioms proved
end Go.Proofs.Ytlnmdepaobocnaa.spanPoints

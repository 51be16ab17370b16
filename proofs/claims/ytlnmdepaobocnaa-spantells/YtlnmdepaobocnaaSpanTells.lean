/- Proved: for every api.Span, every list of api.Span, every list of ints and every two ints, busbarlaw12.SpanTells returns true, and its arguments read as before. Conditions: none. -/
import Derived.Test.YtlnmdepaobocnaaSTell
import Derived.Test.YtlnmdepaobocnaaRCanon
import Derived.Test.YtlnmdepaobocnaaOpenSpans
namespace Go.Proofs.Ytlnmdepaobocnaa.spanTells
open Go.ChangeShapes Go.WideShapes Go.ChangeAt Go.RowKit
open Go.ChangeMaps (open_string shut_string)
set_option linter.unusedVariables false
set_option linter.unusedSimpArgs false

set_option maxRecDepth 100000 in
set_option maxHeartbeats 2000000 in
theorem tells_long (t f u : Int) (A : Option Addr) (n c : Nat) (K : Option Addr) (kn kc : Nat) (which nn : Int) (w : World) (hn : 40 < n) :
    Calls Try.prog 3 #[.agg #[.int .i64 t, .int .i64 f, .int .i64 u], .slice A n c, .slice K kn kc, .int .i64 which, .int .i64 nn] w fun e w' => e = .returned (.bool true) ∧ Below w.heap.size w w' := by
  obtain ⟨W0, hW0⟩ : ∃ W, w.alloc (.cells #[.int .i64 t, .int .i64 f, .int .i64 u] 23) = W := ⟨_, rfl⟩
  have hk : Below w.heap.size w W0 := by rw [← hW0]; exact (Below.refl _ _).alloc (Nat.le_refl _) _
  have HK := Lib.hid hk
  have hn' : (40 : Int) < (n : Int) := by omega
  clear hk
  go_enter Try.func3, Try.ntmps3
  go_wp2_with (first
    | (go_at_call 9; refine (awake12_any _).mono ?_; rintro e w1 ⟨rfl, hb⟩; have HB1 := Lib.hid (HK.out.trans (hb.mono HK.out.size)); clear hb))
  go_ret
  exact ⟨rfl, HB1.out⟩

set_option maxRecDepth 100000 in
set_option maxHeartbeats 8000000 in
theorem tells_0 (t f u : Int) (A : Option Addr) (n c : Nat) (l : List Sp) (K : Option Addr) (kn kc : Nat) (zs : List Int) (which nn : Int) (w : World) (hl : SL w A n l) (hn : n ≤ 40) (hr : Row .i64 w w.heap.size K kn zs) (hz : In64S zs) (k0 : -9223372036854775808 ≤ which) (k1 : which ≤ 9223372036854775807) (hd : which % 4 = 0) :
    Calls Try.prog 3 #[.agg #[.int .i64 t, .int .i64 f, .int .i64 u], .slice A n c, .slice K kn kc, .int .i64 which, .int .i64 nn] w fun e w' => e = .returned (.bool true) ∧ Below w.heap.size w w' := by
  obtain ⟨W0, hW0⟩ : ∃ W, w.alloc (.cells #[.int .i64 t, .int .i64 f, .int .i64 u] 23) = W := ⟨_, rfl⟩
  have hk : Below w.heap.size w W0 := by rw [← hW0]; exact (Below.refl _ _).alloc (Nat.le_refl _) _
  have h0 : WholeV W0 w.heap.size 23 [.int .i64 t, .int .i64 f, .int .i64 u] := by rw [← hW0]; exact heap_alloc_new w _
  have HK := Lib.hid hk
  have HK0 := Lib.hid h0
  have HLA := Lib.hid (hl.below hk)
  have HR := Lib.hid ((hr.below hk).more hk.size)
  have HZ := Lib.hid hz
  have HN := Lib.hid hl.len
  have hn' : ¬ (40 : Int) < (n : Int) := by omega
  have CW := Lib.hid (fun W => within_lit12 which 4 0 W hd k0 k1 (by omega) (by omega))
  have CD := Lib.hid (fun (m q : Nat) (hm : 0 < m) (hm2 : m ≤ 20) (hq : (which.tdiv 4) % (m : Int) = (q : Int)) W => digit_lit12 which 4 m q W hq k0 k1 (by omega) (by omega) (by omega) (by omega))
  clear hl hr hz hd k0 k1 hk h0
  go_enter Try.func3, Try.ntmps3
  go_wp2_with (first
    | (go_at_call 9; refine (awake12_any _).mono ?_; rintro e w1 ⟨rfl, hb⟩
       have HB1 := Lib.hid (HK.out.trans (hb.mono HK.out.size))
       have HV1 := Lib.hid hb
       have HL1 := Lib.hid (HLA.out.below hb)
       have HK1 := Lib.hid (HK0.out.below hb HK0.out.lt)
       clear hb)
    | (go_at_call 10
       (with_reducible refine (lentspans_any A n c l w1 HL1.out (by omega)).mono ?_)
       rintro e w2 ⟨rfl, hw2, hb2⟩
       have HB2 := Lib.hid (HB1.out.trans (hb2.mono HB1.out.size))
       have HV2 := Lib.hid (HV1.out.trans (hb2.mono HV1.out.size))
       have HL2 := Lib.hid (HL1.out.below hb2)
       have HK2 := Lib.hid (HK1.out.below hb2 HK1.out.lt)
       have HW2 := Lib.hid hw2
       clear hb2 hw2))
  obtain ⟨V, hV⟩ : ∃ V, w2 = V := ⟨_, rfl⟩
  obtain ⟨g, hg⟩ : ∃ g, w.heap.size = g := ⟨_, rfl⟩
  obtain ⟨gL, hgL⟩ : ∃ g, w1.heap.size = g := ⟨_, rfl⟩
  have hk2 := HK2.out
  have hl2 := HL2.out
  have hw2 := HW2.out
  have HBV := HB2
  have HVV := HV2
  rw [hV] at hk2 hl2 hw2 HBV HVV ⊢
  rw [hgL] at hw2 ⊢
  have hk3 : WholeV V g 23 [.int .i64 t, .int .i64 f, .int .i64 u] := by rw [← hg]; exact hk2
  have HGG := Lib.hid hg
  rw [hg] at ⊢
  clear hV hg hgL HB1 HB2 HV1 HV2 HL1 HL2 HK1 HK2 HW2 hk2
  have HLV : Hid (∀ X, Below V.heap.size V X → SL X A n l) := Lib.hid fun X hX => hl2.below hX
  have HWV : Hid (∀ X, Below V.heap.size V X → WholeV X g 23 [.int .i64 t, .int .i64 f, .int .i64 u]) := Lib.hid fun X hX => hk3.below hX hk3.lt
  have HTV : Hid (∀ X, Below V.heap.size V X → WholeV X gL 23 (sps (l ++ [spM, spM, spM]))) := Lib.hid fun X hX => hw2.below hX hw2.lt
  have HTL : Hid (∀ X, Below V.heap.size V X → SL X (some ⟨gL, 0, none⟩) n l) := Lib.hid fun X hX => sl_of_whole (vs := sps [spM, spM, spM]) (by rw [← sps_append]; exact HTV.out X hX) HN.out
  have KS : Hid (∀ X, Below V.heap.size V X → X.cell? ⟨g, 0, none⟩ = some (.int .i64 t) ∧ X.cell? ⟨g, 1, none⟩ = some (.int .i64 f) ∧ X.cell? ⟨g, 2, none⟩ = some (.int .i64 u) ∧ Below V.heap.size V X) := Lib.hid fun X hX => ⟨(HWV.out X hX).cell 0, (HWV.out X hX).cell 1, (HWV.out X hX).cell 2, hX⟩
  have KB : Hid (∀ X, (X.cell? ⟨g, 0, none⟩ = some (.int .i64 t) ∧ X.cell? ⟨g, 1, none⟩ = some (.int .i64 f) ∧ X.cell? ⟨g, 2, none⟩ = some (.int .i64 u) ∧ Below V.heap.size V X) → Below V.heap.size V X) := Lib.hid fun X hs => hs.2.2.2
  have KT : Hid (∀ X X', (X.cell? ⟨g, 0, none⟩ = some (.int .i64 t) ∧ X.cell? ⟨g, 1, none⟩ = some (.int .i64 f) ∧ X.cell? ⟨g, 2, none⟩ = some (.int .i64 u) ∧ Below V.heap.size V X) → Below X.heap.size X X' → X'.cell? ⟨g, 0, none⟩ = some (.int .i64 t) ∧ X'.cell? ⟨g, 1, none⟩ = some (.int .i64 f) ∧ X'.cell? ⟨g, 2, none⟩ = some (.int .i64 u) ∧ Below V.heap.size V X') := Lib.hid fun X X' hs hb => KS.out _ (hs.2.2.2.trans (hb.mono hs.2.2.2.size))
  obtain ⟨b1, hb1⟩ := bool_of (rightS (t, f, u))
  obtain ⟨b2, hb2⟩ := bool_of (adjS l n)
  have HC1 : Hid (∀ X, Calls Try.prog 11 #[.agg #[.int .i64 t, .int .i64 f, .int .i64 u]] X fun e w' => e = .returned (.bool b1) ∧ Below X.heap.size X w') := Lib.hid fun X => pright12 (t, f, u) b1 X hb1
  have HC2 : Hid (∀ X, Calls Try.prog 12 #[.agg #[.int .i64 t, .int .i64 f, .int .i64 u]] X fun e w' => e = .returned (.bool b1) ∧ Below X.heap.size X w') := Lib.hid fun X => rright12 (t, f, u) b1 X hb1
  have HC3 : Hid (∀ X, Below V.heap.size V X → Calls Try.prog 13 #[.slice (some ⟨gL, 0, none⟩) n (n + 3)] X fun e w' => e = .returned (.bool b2) ∧ Below X.heap.size X w') := Lib.hid fun X hX => pcanon_any _ n (n + 3) l b2 X (HTL.out X hX) hb2 (by omega)
  have HC4 : Hid (∀ X, Below V.heap.size V X → Calls Try.prog 14 #[.slice A n c] X fun e w' => e = .returned (.bool b2) ∧ Below X.heap.size X w') := Lib.hid fun X hX => rcanon_any A n c l b2 X (HLV.out X hX) hb2 (by omega)
  have HC5 : Hid (∀ X, Below V.heap.size V X → Calls Try.prog 15 #[.slice (some ⟨gL, 0, none⟩) n (n + 3), .slice A n c] X fun e w' => e = .returned (.bool true) ∧ Below X.heap.size X w') := Lib.hid fun X hX => stays_of A n c gL l X (HLV.out X hX) (HTV.out X hX) (by omega)
  have HZR : Hid (∀ X, Below V.heap.size V X → Row .i64 X X.heap.size K kn zs) := Lib.hid fun X hX => ((HR.out.below HVV.out).more HVV.out.size |>.below hX).more hX.size
  clear hb1 hb2 hw2 hk3 hl2
  cases b1 <;> cases b2
  all_goals
    go_region_held3 (fun X => X.cell? ⟨g, 0, none⟩ = some (.int .i64 t) ∧ X.cell? ⟨g, 1, none⟩ = some (.int .i64 f) ∧ X.cell? ⟨g, 2, none⟩ = some (.int .i64 u) ∧ Below V.heap.size V X)
      (first
        | exact KS.out _ (Below.refl _ _).drew
        | exact KT.out _ _ (by assumption) kA
        | exact KT.out _ _ (by assumption) kB
        | exact KT.out _ _ (by assumption) kC
        | exact KT.out _ _ (by assumption) kD
        | exact KT.out _ _ (by assumption) kE)
      (first
        | (go_at_call 11
           (with_reducible refine (HC1.out _).mono ?_)
           rintro e xA ⟨rfl, kA⟩)
        | (go_at_call 12
           (with_reducible refine (HC2.out _).mono ?_)
           rintro e xB ⟨rfl, kB⟩)
        | (go_at_call 13
           (with_reducible refine (HC3.out _ (KB.out _ ?_)).mono ?_)
           · assumption
           rintro e xC ⟨rfl, kC⟩)
        | (go_at_call 14
           (with_reducible refine (HC4.out _ (KB.out _ ?_)).mono ?_)
           · assumption
           rintro e xD ⟨rfl, kD⟩)
        | (go_at_call 15
           (with_reducible refine (HC5.out _ (KB.out _ ?_)).mono ?_)
           · assumption
           rintro e xE ⟨rfl, kE⟩))
  all_goals
    have hvx := KB.out _ (by assumption)
    have HXV := Lib.hid (HBV.out.trans (hvx.mono HBV.out.size))
    have HXZ := Lib.hid (HZR.out _ hvx)
    clear hvx
    go_upto_if 49 with (first
      | (go_at_call 16
         (with_reducible refine (lspans_any K kn kc zs _ HXZ.out HZ.out).mono ?_)
         rintro e w3 ⟨⟨B, m, d, l2, rfl, ho, hc, hm⟩, hb⟩
         have HB3 := Lib.hid (HXV.out.trans (hb.mono HXV.out.size))
         have HO3 := Lib.hid (ho.mono HXV.out.size)
         have HC := Lib.hid hc
         clear hb ho hc)
      | (go_at_call 13
         (with_reducible refine (pcanon_any B m d l2 true w3 HO3.out.sl (by simpa using adj_of_canon HO3.out.len HC.out) (by omega)).mono ?_)
         rintro e w4 ⟨rfl, hb4⟩
         have HB4 := Lib.hid (HB3.out.trans (hb4.mono HB3.out.size))
         have HO4 := Lib.hid (HO3.out.keep hb4)
         clear hb4))
    by_cases hm0 : m = 0
    · have hm1 : (m : Int) = 0 := by omega
      subst hm0
      go_wp2
      go_ret
      exact ⟨rfl, HB4.out⟩
    · have hm1 : ¬ (m : Int) = 0 := by omega
      have hm2 : 0 < m := by omega
      obtain ⟨q, hq⟩ : ∃ q : Nat, (which.tdiv 4) % (m : Int) = (q : Int) := ⟨((which.tdiv 4) % (m : Int)).toNat, by
        have := Int.emod_nonneg (which.tdiv 4) (show (m : Int) ≠ 0 by omega)
        omega⟩
      have hqm : q < m := by
        have := Int.emod_lt_of_pos (which.tdiv 4) (show (0 : Int) < (m : Int) by omega)
        omega
      have hqm2 : (q : Int) < (m : Int) := by omega
      have hq0 : (0 : Int) ≤ (q : Int) := by omega
      have CQ := Lib.hid (fun W => CD.out m q hm2 hm hq W)
      obtain ⟨bx, off, hB, hge, hfz, p0, p1, p2⟩ := HO4.out.own q hqm
      subst hB
      have hf0 : w4.frozen? ⟨bx, off + q * 3, none⟩ = false := hfz _
      have HN5 := Lib.hid (HO4.out.sl.turn rfl q 0 hqm (by omega) nn ⟨bx, off + q * 3, none⟩ rfl)
      have HB5 : Hid (Below w.heap.size w (w4.setCell ⟨bx, off + q * 3, none⟩ (.int .i64 nn))) := Lib.hid (HB4.out.setCell (p := ⟨bx, off + q * 3, none⟩) hge _)
      obtain ⟨b3, hb3⟩ := bool_of (adjS (l2.set q (turnS 0 nn (l2.getD q sp0))) m)
      have HD3 := Lib.hid hb3
      clear hb3 hfz hge
      clear hq
      go_wp2_with (first
        | (go_at_call 17; (with_reducible refine (CQ.out _).mono ?_); rintro e w' ⟨rfl, rfl⟩)
        | (go_at_call 18; (with_reducible refine (CW.out _).mono ?_); rintro e w' ⟨rfl, rfl⟩)
        | (go_at_call 13
           (with_reducible refine (pcanon_any _ m d _ b3 _ HN5.out HD3.out (by omega)).mono ?_)
           rintro e w6 ⟨rfl, hb6⟩
           have HN6 := Lib.hid (HN5.out.below hb6)
           have HB6 := Lib.hid (HB5.out.trans (hb6.mono HB5.out.size))
           clear hb6)
        | (go_at_call 14
           (with_reducible refine (rcanon_any _ m d _ b3 w6 HN6.out HD3.out (by omega)).mono ?_)
           rintro e w7 ⟨rfl, hb7⟩
           have HB7 := Lib.hid (HB6.out.trans (hb7.mono HB6.out.size))
           clear hb7))
      go_ret
      exact ⟨by cases b3 <;> rfl, HB7.out⟩

set_option maxRecDepth 100000 in
set_option maxHeartbeats 8000000 in
theorem tells_1 (t f u : Int) (A : Option Addr) (n c : Nat) (l : List Sp) (K : Option Addr) (kn kc : Nat) (zs : List Int) (which nn : Int) (w : World) (hl : SL w A n l) (hn : n ≤ 40) (hr : Row .i64 w w.heap.size K kn zs) (hz : In64S zs) (k0 : -9223372036854775808 ≤ which) (k1 : which ≤ 9223372036854775807) (hd : which % 4 = 1) :
    Calls Try.prog 3 #[.agg #[.int .i64 t, .int .i64 f, .int .i64 u], .slice A n c, .slice K kn kc, .int .i64 which, .int .i64 nn] w fun e w' => e = .returned (.bool true) ∧ Below w.heap.size w w' := by
  obtain ⟨W0, hW0⟩ : ∃ W, w.alloc (.cells #[.int .i64 t, .int .i64 f, .int .i64 u] 23) = W := ⟨_, rfl⟩
  have hk : Below w.heap.size w W0 := by rw [← hW0]; exact (Below.refl _ _).alloc (Nat.le_refl _) _
  have h0 : WholeV W0 w.heap.size 23 [.int .i64 t, .int .i64 f, .int .i64 u] := by rw [← hW0]; exact heap_alloc_new w _
  have HK := Lib.hid hk
  have HK0 := Lib.hid h0
  have HLA := Lib.hid (hl.below hk)
  have HR := Lib.hid ((hr.below hk).more hk.size)
  have HZ := Lib.hid hz
  have HN := Lib.hid hl.len
  have hn' : ¬ (40 : Int) < (n : Int) := by omega
  have CW := Lib.hid (fun W => within_lit12 which 4 1 W hd k0 k1 (by omega) (by omega))
  have CD := Lib.hid (fun (m q : Nat) (hm : 0 < m) (hm2 : m ≤ 20) (hq : (which.tdiv 4) % (m : Int) = (q : Int)) W => digit_lit12 which 4 m q W hq k0 k1 (by omega) (by omega) (by omega) (by omega))
  clear hl hr hz hd k0 k1 hk h0
  go_enter Try.func3, Try.ntmps3
  go_wp2_with (first
    | (go_at_call 9; refine (awake12_any _).mono ?_; rintro e w1 ⟨rfl, hb⟩
       have HB1 := Lib.hid (HK.out.trans (hb.mono HK.out.size))
       have HV1 := Lib.hid hb
       have HL1 := Lib.hid (HLA.out.below hb)
       have HK1 := Lib.hid (HK0.out.below hb HK0.out.lt)
       clear hb)
    | (go_at_call 10
       (with_reducible refine (lentspans_any A n c l w1 HL1.out (by omega)).mono ?_)
       rintro e w2 ⟨rfl, hw2, hb2⟩
       have HB2 := Lib.hid (HB1.out.trans (hb2.mono HB1.out.size))
       have HV2 := Lib.hid (HV1.out.trans (hb2.mono HV1.out.size))
       have HL2 := Lib.hid (HL1.out.below hb2)
       have HK2 := Lib.hid (HK1.out.below hb2 HK1.out.lt)
       have HW2 := Lib.hid hw2
       clear hb2 hw2))
  obtain ⟨V, hV⟩ : ∃ V, w2 = V := ⟨_, rfl⟩
  obtain ⟨g, hg⟩ : ∃ g, w.heap.size = g := ⟨_, rfl⟩
  obtain ⟨gL, hgL⟩ : ∃ g, w1.heap.size = g := ⟨_, rfl⟩
  have hk2 := HK2.out
  have hl2 := HL2.out
  have hw2 := HW2.out
  have HBV := HB2
  have HVV := HV2
  rw [hV] at hk2 hl2 hw2 HBV HVV ⊢
  rw [hgL] at hw2 ⊢
  have hk3 : WholeV V g 23 [.int .i64 t, .int .i64 f, .int .i64 u] := by rw [← hg]; exact hk2
  have HGG := Lib.hid hg
  rw [hg] at ⊢
  clear hV hg hgL HB1 HB2 HV1 HV2 HL1 HL2 HK1 HK2 HW2 hk2
  have HLV : Hid (∀ X, Below V.heap.size V X → SL X A n l) := Lib.hid fun X hX => hl2.below hX
  have HWV : Hid (∀ X, Below V.heap.size V X → WholeV X g 23 [.int .i64 t, .int .i64 f, .int .i64 u]) := Lib.hid fun X hX => hk3.below hX hk3.lt
  have HTV : Hid (∀ X, Below V.heap.size V X → WholeV X gL 23 (sps (l ++ [spM, spM, spM]))) := Lib.hid fun X hX => hw2.below hX hw2.lt
  have HTL : Hid (∀ X, Below V.heap.size V X → SL X (some ⟨gL, 0, none⟩) n l) := Lib.hid fun X hX => sl_of_whole (vs := sps [spM, spM, spM]) (by rw [← sps_append]; exact HTV.out X hX) HN.out
  have KS : Hid (∀ X, Below V.heap.size V X → X.cell? ⟨g, 0, none⟩ = some (.int .i64 t) ∧ X.cell? ⟨g, 1, none⟩ = some (.int .i64 f) ∧ X.cell? ⟨g, 2, none⟩ = some (.int .i64 u) ∧ Below V.heap.size V X) := Lib.hid fun X hX => ⟨(HWV.out X hX).cell 0, (HWV.out X hX).cell 1, (HWV.out X hX).cell 2, hX⟩
  have KB : Hid (∀ X, (X.cell? ⟨g, 0, none⟩ = some (.int .i64 t) ∧ X.cell? ⟨g, 1, none⟩ = some (.int .i64 f) ∧ X.cell? ⟨g, 2, none⟩ = some (.int .i64 u) ∧ Below V.heap.size V X) → Below V.heap.size V X) := Lib.hid fun X hs => hs.2.2.2
  have KT : Hid (∀ X X', (X.cell? ⟨g, 0, none⟩ = some (.int .i64 t) ∧ X.cell? ⟨g, 1, none⟩ = some (.int .i64 f) ∧ X.cell? ⟨g, 2, none⟩ = some (.int .i64 u) ∧ Below V.heap.size V X) → Below X.heap.size X X' → X'.cell? ⟨g, 0, none⟩ = some (.int .i64 t) ∧ X'.cell? ⟨g, 1, none⟩ = some (.int .i64 f) ∧ X'.cell? ⟨g, 2, none⟩ = some (.int .i64 u) ∧ Below V.heap.size V X') := Lib.hid fun X X' hs hb => KS.out _ (hs.2.2.2.trans (hb.mono hs.2.2.2.size))
  obtain ⟨b1, hb1⟩ := bool_of (rightS (t, f, u))
  obtain ⟨b2, hb2⟩ := bool_of (adjS l n)
  have HC1 : Hid (∀ X, Calls Try.prog 11 #[.agg #[.int .i64 t, .int .i64 f, .int .i64 u]] X fun e w' => e = .returned (.bool b1) ∧ Below X.heap.size X w') := Lib.hid fun X => pright12 (t, f, u) b1 X hb1
  have HC2 : Hid (∀ X, Calls Try.prog 12 #[.agg #[.int .i64 t, .int .i64 f, .int .i64 u]] X fun e w' => e = .returned (.bool b1) ∧ Below X.heap.size X w') := Lib.hid fun X => rright12 (t, f, u) b1 X hb1
  have HC3 : Hid (∀ X, Below V.heap.size V X → Calls Try.prog 13 #[.slice (some ⟨gL, 0, none⟩) n (n + 3)] X fun e w' => e = .returned (.bool b2) ∧ Below X.heap.size X w') := Lib.hid fun X hX => pcanon_any _ n (n + 3) l b2 X (HTL.out X hX) hb2 (by omega)
  have HC4 : Hid (∀ X, Below V.heap.size V X → Calls Try.prog 14 #[.slice A n c] X fun e w' => e = .returned (.bool b2) ∧ Below X.heap.size X w') := Lib.hid fun X hX => rcanon_any A n c l b2 X (HLV.out X hX) hb2 (by omega)
  have HC5 : Hid (∀ X, Below V.heap.size V X → Calls Try.prog 15 #[.slice (some ⟨gL, 0, none⟩) n (n + 3), .slice A n c] X fun e w' => e = .returned (.bool true) ∧ Below X.heap.size X w') := Lib.hid fun X hX => stays_of A n c gL l X (HLV.out X hX) (HTV.out X hX) (by omega)
  have HZR : Hid (∀ X, Below V.heap.size V X → Row .i64 X X.heap.size K kn zs) := Lib.hid fun X hX => ((HR.out.below HVV.out).more HVV.out.size |>.below hX).more hX.size
  clear hb1 hb2 hw2 hk3 hl2
  cases b1 <;> cases b2
  all_goals
    go_region_held3 (fun X => X.cell? ⟨g, 0, none⟩ = some (.int .i64 t) ∧ X.cell? ⟨g, 1, none⟩ = some (.int .i64 f) ∧ X.cell? ⟨g, 2, none⟩ = some (.int .i64 u) ∧ Below V.heap.size V X)
      (first
        | exact KS.out _ (Below.refl _ _).drew
        | exact KT.out _ _ (by assumption) kA
        | exact KT.out _ _ (by assumption) kB
        | exact KT.out _ _ (by assumption) kC
        | exact KT.out _ _ (by assumption) kD
        | exact KT.out _ _ (by assumption) kE)
      (first
        | (go_at_call 11
           (with_reducible refine (HC1.out _).mono ?_)
           rintro e xA ⟨rfl, kA⟩)
        | (go_at_call 12
           (with_reducible refine (HC2.out _).mono ?_)
           rintro e xB ⟨rfl, kB⟩)
        | (go_at_call 13
           (with_reducible refine (HC3.out _ (KB.out _ ?_)).mono ?_)
           · assumption
           rintro e xC ⟨rfl, kC⟩)
        | (go_at_call 14
           (with_reducible refine (HC4.out _ (KB.out _ ?_)).mono ?_)
           · assumption
           rintro e xD ⟨rfl, kD⟩)
        | (go_at_call 15
           (with_reducible refine (HC5.out _ (KB.out _ ?_)).mono ?_)
           · assumption
           rintro e xE ⟨rfl, kE⟩))
  all_goals
    have hvx := KB.out _ (by assumption)
    have HXV := Lib.hid (HBV.out.trans (hvx.mono HBV.out.size))
    have HXZ := Lib.hid (HZR.out _ hvx)
    clear hvx
    go_upto_if 49 with (first
      | (go_at_call 16
         (with_reducible refine (lspans_any K kn kc zs _ HXZ.out HZ.out).mono ?_)
         rintro e w3 ⟨⟨B, m, d, l2, rfl, ho, hc, hm⟩, hb⟩
         have HB3 := Lib.hid (HXV.out.trans (hb.mono HXV.out.size))
         have HO3 := Lib.hid (ho.mono HXV.out.size)
         have HC := Lib.hid hc
         clear hb ho hc)
      | (go_at_call 13
         (with_reducible refine (pcanon_any B m d l2 true w3 HO3.out.sl (by simpa using adj_of_canon HO3.out.len HC.out) (by omega)).mono ?_)
         rintro e w4 ⟨rfl, hb4⟩
         have HB4 := Lib.hid (HB3.out.trans (hb4.mono HB3.out.size))
         have HO4 := Lib.hid (HO3.out.keep hb4)
         clear hb4))
    by_cases hm0 : m = 0
    · have hm1 : (m : Int) = 0 := by omega
      subst hm0
      go_wp2
      go_ret
      exact ⟨rfl, HB4.out⟩
    · have hm1 : ¬ (m : Int) = 0 := by omega
      have hm2 : 0 < m := by omega
      obtain ⟨q, hq⟩ : ∃ q : Nat, (which.tdiv 4) % (m : Int) = (q : Int) := ⟨((which.tdiv 4) % (m : Int)).toNat, by
        have := Int.emod_nonneg (which.tdiv 4) (show (m : Int) ≠ 0 by omega)
        omega⟩
      have hqm : q < m := by
        have := Int.emod_lt_of_pos (which.tdiv 4) (show (0 : Int) < (m : Int) by omega)
        omega
      have hqm2 : (q : Int) < (m : Int) := by omega
      have hq0 : (0 : Int) ≤ (q : Int) := by omega
      have CQ := Lib.hid (fun W => CD.out m q hm2 hm hq W)
      obtain ⟨bx, off, hB, hge, hfz, p0, p1, p2⟩ := HO4.out.own q hqm
      subst hB
      have hf0 : w4.frozen? ⟨bx, off + q * 3 + 1, none⟩ = false := hfz _
      have HN5 := Lib.hid (HO4.out.sl.turn rfl q 1 hqm (by omega) nn ⟨bx, off + q * 3 + 1, none⟩ rfl)
      have HB5 : Hid (Below w.heap.size w (w4.setCell ⟨bx, off + q * 3 + 1, none⟩ (.int .i64 nn))) := Lib.hid (HB4.out.setCell (p := ⟨bx, off + q * 3 + 1, none⟩) hge _)
      obtain ⟨b3, hb3⟩ := bool_of (adjS (l2.set q (turnS 1 nn (l2.getD q sp0))) m)
      have HD3 := Lib.hid hb3
      clear hb3 hfz hge
      clear hq
      go_wp2_with (first
        | (go_at_call 17; (with_reducible refine (CQ.out _).mono ?_); rintro e w' ⟨rfl, rfl⟩)
        | (go_at_call 18; (with_reducible refine (CW.out _).mono ?_); rintro e w' ⟨rfl, rfl⟩)
        | (go_at_call 13
           (with_reducible refine (pcanon_any _ m d _ b3 _ HN5.out HD3.out (by omega)).mono ?_)
           rintro e w6 ⟨rfl, hb6⟩
           have HN6 := Lib.hid (HN5.out.below hb6)
           have HB6 := Lib.hid (HB5.out.trans (hb6.mono HB5.out.size))
           clear hb6)
        | (go_at_call 14
           (with_reducible refine (rcanon_any _ m d _ b3 w6 HN6.out HD3.out (by omega)).mono ?_)
           rintro e w7 ⟨rfl, hb7⟩
           have HB7 := Lib.hid (HB6.out.trans (hb7.mono HB6.out.size))
           clear hb7))
      go_ret
      exact ⟨by cases b3 <;> rfl, HB7.out⟩

set_option maxRecDepth 100000 in
set_option maxHeartbeats 8000000 in
theorem tells_2 (t f u : Int) (A : Option Addr) (n c : Nat) (l : List Sp) (K : Option Addr) (kn kc : Nat) (zs : List Int) (which nn : Int) (w : World) (hl : SL w A n l) (hn : n ≤ 40) (hr : Row .i64 w w.heap.size K kn zs) (hz : In64S zs) (k0 : -9223372036854775808 ≤ which) (k1 : which ≤ 9223372036854775807) (hd : which % 4 = 2) :
    Calls Try.prog 3 #[.agg #[.int .i64 t, .int .i64 f, .int .i64 u], .slice A n c, .slice K kn kc, .int .i64 which, .int .i64 nn] w fun e w' => e = .returned (.bool true) ∧ Below w.heap.size w w' := by
  obtain ⟨W0, hW0⟩ : ∃ W, w.alloc (.cells #[.int .i64 t, .int .i64 f, .int .i64 u] 23) = W := ⟨_, rfl⟩
  have hk : Below w.heap.size w W0 := by rw [← hW0]; exact (Below.refl _ _).alloc (Nat.le_refl _) _
  have h0 : WholeV W0 w.heap.size 23 [.int .i64 t, .int .i64 f, .int .i64 u] := by rw [← hW0]; exact heap_alloc_new w _
  have HK := Lib.hid hk
  have HK0 := Lib.hid h0
  have HLA := Lib.hid (hl.below hk)
  have HR := Lib.hid ((hr.below hk).more hk.size)
  have HZ := Lib.hid hz
  have HN := Lib.hid hl.len
  have hn' : ¬ (40 : Int) < (n : Int) := by omega
  have CW := Lib.hid (fun W => within_lit12 which 4 2 W hd k0 k1 (by omega) (by omega))
  have CD := Lib.hid (fun (m q : Nat) (hm : 0 < m) (hm2 : m ≤ 20) (hq : (which.tdiv 4) % (m : Int) = (q : Int)) W => digit_lit12 which 4 m q W hq k0 k1 (by omega) (by omega) (by omega) (by omega))
  clear hl hr hz hd k0 k1 hk h0
  go_enter Try.func3, Try.ntmps3
  go_wp2_with (first
    | (go_at_call 9; refine (awake12_any _).mono ?_; rintro e w1 ⟨rfl, hb⟩
       have HB1 := Lib.hid (HK.out.trans (hb.mono HK.out.size))
       have HV1 := Lib.hid hb
       have HL1 := Lib.hid (HLA.out.below hb)
       have HK1 := Lib.hid (HK0.out.below hb HK0.out.lt)
       clear hb)
    | (go_at_call 10
       (with_reducible refine (lentspans_any A n c l w1 HL1.out (by omega)).mono ?_)
       rintro e w2 ⟨rfl, hw2, hb2⟩
       have HB2 := Lib.hid (HB1.out.trans (hb2.mono HB1.out.size))
       have HV2 := Lib.hid (HV1.out.trans (hb2.mono HV1.out.size))
       have HL2 := Lib.hid (HL1.out.below hb2)
       have HK2 := Lib.hid (HK1.out.below hb2 HK1.out.lt)
       have HW2 := Lib.hid hw2
       clear hb2 hw2))
  obtain ⟨V, hV⟩ : ∃ V, w2 = V := ⟨_, rfl⟩
  obtain ⟨g, hg⟩ : ∃ g, w.heap.size = g := ⟨_, rfl⟩
  obtain ⟨gL, hgL⟩ : ∃ g, w1.heap.size = g := ⟨_, rfl⟩
  have hk2 := HK2.out
  have hl2 := HL2.out
  have hw2 := HW2.out
  have HBV := HB2
  have HVV := HV2
  rw [hV] at hk2 hl2 hw2 HBV HVV ⊢
  rw [hgL] at hw2 ⊢
  have hk3 : WholeV V g 23 [.int .i64 t, .int .i64 f, .int .i64 u] := by rw [← hg]; exact hk2
  have HGG := Lib.hid hg
  rw [hg] at ⊢
  clear hV hg hgL HB1 HB2 HV1 HV2 HL1 HL2 HK1 HK2 HW2 hk2
  have HLV : Hid (∀ X, Below V.heap.size V X → SL X A n l) := Lib.hid fun X hX => hl2.below hX
  have HWV : Hid (∀ X, Below V.heap.size V X → WholeV X g 23 [.int .i64 t, .int .i64 f, .int .i64 u]) := Lib.hid fun X hX => hk3.below hX hk3.lt
  have HTV : Hid (∀ X, Below V.heap.size V X → WholeV X gL 23 (sps (l ++ [spM, spM, spM]))) := Lib.hid fun X hX => hw2.below hX hw2.lt
  have HTL : Hid (∀ X, Below V.heap.size V X → SL X (some ⟨gL, 0, none⟩) n l) := Lib.hid fun X hX => sl_of_whole (vs := sps [spM, spM, spM]) (by rw [← sps_append]; exact HTV.out X hX) HN.out
  have KS : Hid (∀ X, Below V.heap.size V X → X.cell? ⟨g, 0, none⟩ = some (.int .i64 t) ∧ X.cell? ⟨g, 1, none⟩ = some (.int .i64 f) ∧ X.cell? ⟨g, 2, none⟩ = some (.int .i64 u) ∧ Below V.heap.size V X) := Lib.hid fun X hX => ⟨(HWV.out X hX).cell 0, (HWV.out X hX).cell 1, (HWV.out X hX).cell 2, hX⟩
  have KB : Hid (∀ X, (X.cell? ⟨g, 0, none⟩ = some (.int .i64 t) ∧ X.cell? ⟨g, 1, none⟩ = some (.int .i64 f) ∧ X.cell? ⟨g, 2, none⟩ = some (.int .i64 u) ∧ Below V.heap.size V X) → Below V.heap.size V X) := Lib.hid fun X hs => hs.2.2.2
  have KT : Hid (∀ X X', (X.cell? ⟨g, 0, none⟩ = some (.int .i64 t) ∧ X.cell? ⟨g, 1, none⟩ = some (.int .i64 f) ∧ X.cell? ⟨g, 2, none⟩ = some (.int .i64 u) ∧ Below V.heap.size V X) → Below X.heap.size X X' → X'.cell? ⟨g, 0, none⟩ = some (.int .i64 t) ∧ X'.cell? ⟨g, 1, none⟩ = some (.int .i64 f) ∧ X'.cell? ⟨g, 2, none⟩ = some (.int .i64 u) ∧ Below V.heap.size V X') := Lib.hid fun X X' hs hb => KS.out _ (hs.2.2.2.trans (hb.mono hs.2.2.2.size))
  obtain ⟨b1, hb1⟩ := bool_of (rightS (t, f, u))
  obtain ⟨b2, hb2⟩ := bool_of (adjS l n)
  have HC1 : Hid (∀ X, Calls Try.prog 11 #[.agg #[.int .i64 t, .int .i64 f, .int .i64 u]] X fun e w' => e = .returned (.bool b1) ∧ Below X.heap.size X w') := Lib.hid fun X => pright12 (t, f, u) b1 X hb1
  have HC2 : Hid (∀ X, Calls Try.prog 12 #[.agg #[.int .i64 t, .int .i64 f, .int .i64 u]] X fun e w' => e = .returned (.bool b1) ∧ Below X.heap.size X w') := Lib.hid fun X => rright12 (t, f, u) b1 X hb1
  have HC3 : Hid (∀ X, Below V.heap.size V X → Calls Try.prog 13 #[.slice (some ⟨gL, 0, none⟩) n (n + 3)] X fun e w' => e = .returned (.bool b2) ∧ Below X.heap.size X w') := Lib.hid fun X hX => pcanon_any _ n (n + 3) l b2 X (HTL.out X hX) hb2 (by omega)
  have HC4 : Hid (∀ X, Below V.heap.size V X → Calls Try.prog 14 #[.slice A n c] X fun e w' => e = .returned (.bool b2) ∧ Below X.heap.size X w') := Lib.hid fun X hX => rcanon_any A n c l b2 X (HLV.out X hX) hb2 (by omega)
  have HC5 : Hid (∀ X, Below V.heap.size V X → Calls Try.prog 15 #[.slice (some ⟨gL, 0, none⟩) n (n + 3), .slice A n c] X fun e w' => e = .returned (.bool true) ∧ Below X.heap.size X w') := Lib.hid fun X hX => stays_of A n c gL l X (HLV.out X hX) (HTV.out X hX) (by omega)
  have HZR : Hid (∀ X, Below V.heap.size V X → Row .i64 X X.heap.size K kn zs) := Lib.hid fun X hX => ((HR.out.below HVV.out).more HVV.out.size |>.below hX).more hX.size
  clear hb1 hb2 hw2 hk3 hl2
  cases b1 <;> cases b2
  all_goals
    go_region_held3 (fun X => X.cell? ⟨g, 0, none⟩ = some (.int .i64 t) ∧ X.cell? ⟨g, 1, none⟩ = some (.int .i64 f) ∧ X.cell? ⟨g, 2, none⟩ = some (.int .i64 u) ∧ Below V.heap.size V X)
      (first
        | exact KS.out _ (Below.refl _ _).drew
        | exact KT.out _ _ (by assumption) kA
        | exact KT.out _ _ (by assumption) kB
        | exact KT.out _ _ (by assumption) kC
        | exact KT.out _ _ (by assumption) kD
        | exact KT.out _ _ (by assumption) kE)
      (first
        | (go_at_call 11
           (with_reducible refine (HC1.out _).mono ?_)
           rintro e xA ⟨rfl, kA⟩)
        | (go_at_call 12
           (with_reducible refine (HC2.out _).mono ?_)
           rintro e xB ⟨rfl, kB⟩)
        | (go_at_call 13
           (with_reducible refine (HC3.out _ (KB.out _ ?_)).mono ?_)
           · assumption
           rintro e xC ⟨rfl, kC⟩)
        | (go_at_call 14
           (with_reducible refine (HC4.out _ (KB.out _ ?_)).mono ?_)
           · assumption
           rintro e xD ⟨rfl, kD⟩)
        | (go_at_call 15
           (with_reducible refine (HC5.out _ (KB.out _ ?_)).mono ?_)
           · assumption
           rintro e xE ⟨rfl, kE⟩))
  all_goals
    have hvx := KB.out _ (by assumption)
    have HXV := Lib.hid (HBV.out.trans (hvx.mono HBV.out.size))
    have HXZ := Lib.hid (HZR.out _ hvx)
    clear hvx
    go_upto_if 49 with (first
      | (go_at_call 16
         (with_reducible refine (lspans_any K kn kc zs _ HXZ.out HZ.out).mono ?_)
         rintro e w3 ⟨⟨B, m, d, l2, rfl, ho, hc, hm⟩, hb⟩
         have HB3 := Lib.hid (HXV.out.trans (hb.mono HXV.out.size))
         have HO3 := Lib.hid (ho.mono HXV.out.size)
         have HC := Lib.hid hc
         clear hb ho hc)
      | (go_at_call 13
         (with_reducible refine (pcanon_any B m d l2 true w3 HO3.out.sl (by simpa using adj_of_canon HO3.out.len HC.out) (by omega)).mono ?_)
         rintro e w4 ⟨rfl, hb4⟩
         have HB4 := Lib.hid (HB3.out.trans (hb4.mono HB3.out.size))
         have HO4 := Lib.hid (HO3.out.keep hb4)
         clear hb4))
    by_cases hm0 : m = 0
    · have hm1 : (m : Int) = 0 := by omega
      subst hm0
      go_wp2
      go_ret
      exact ⟨rfl, HB4.out⟩
    · have hm1 : ¬ (m : Int) = 0 := by omega
      have hm2 : 0 < m := by omega
      obtain ⟨q, hq⟩ : ∃ q : Nat, (which.tdiv 4) % (m : Int) = (q : Int) := ⟨((which.tdiv 4) % (m : Int)).toNat, by
        have := Int.emod_nonneg (which.tdiv 4) (show (m : Int) ≠ 0 by omega)
        omega⟩
      have hqm : q < m := by
        have := Int.emod_lt_of_pos (which.tdiv 4) (show (0 : Int) < (m : Int) by omega)
        omega
      have hqm2 : (q : Int) < (m : Int) := by omega
      have hq0 : (0 : Int) ≤ (q : Int) := by omega
      have CQ := Lib.hid (fun W => CD.out m q hm2 hm hq W)
      obtain ⟨bx, off, hB, hge, hfz, p0, p1, p2⟩ := HO4.out.own q hqm
      subst hB
      have hf0 : w4.frozen? ⟨bx, off + q * 3 + 2, none⟩ = false := hfz _
      have HN5 := Lib.hid (HO4.out.sl.turn rfl q 2 hqm (by omega) nn ⟨bx, off + q * 3 + 2, none⟩ rfl)
      have HB5 : Hid (Below w.heap.size w (w4.setCell ⟨bx, off + q * 3 + 2, none⟩ (.int .i64 nn))) := Lib.hid (HB4.out.setCell (p := ⟨bx, off + q * 3 + 2, none⟩) hge _)
      obtain ⟨b3, hb3⟩ := bool_of (adjS (l2.set q (turnS 2 nn (l2.getD q sp0))) m)
      have HD3 := Lib.hid hb3
      clear hb3 hfz hge
      clear hq
      go_wp2_with (first
        | (go_at_call 17; (with_reducible refine (CQ.out _).mono ?_); rintro e w' ⟨rfl, rfl⟩)
        | (go_at_call 18; (with_reducible refine (CW.out _).mono ?_); rintro e w' ⟨rfl, rfl⟩)
        | (go_at_call 13
           (with_reducible refine (pcanon_any _ m d _ b3 _ HN5.out HD3.out (by omega)).mono ?_)
           rintro e w6 ⟨rfl, hb6⟩
           have HN6 := Lib.hid (HN5.out.below hb6)
           have HB6 := Lib.hid (HB5.out.trans (hb6.mono HB5.out.size))
           clear hb6)
        | (go_at_call 14
           (with_reducible refine (rcanon_any _ m d _ b3 w6 HN6.out HD3.out (by omega)).mono ?_)
           rintro e w7 ⟨rfl, hb7⟩
           have HB7 := Lib.hid (HB6.out.trans (hb7.mono HB6.out.size))
           clear hb7))
      go_ret
      exact ⟨by cases b3 <;> rfl, HB7.out⟩

set_option maxRecDepth 100000 in
set_option maxHeartbeats 8000000 in
theorem tells_3 (t f u : Int) (A : Option Addr) (n c : Nat) (l : List Sp) (K : Option Addr) (kn kc : Nat) (zs : List Int) (which nn : Int) (w : World) (hl : SL w A n l) (hn : n ≤ 40) (hr : Row .i64 w w.heap.size K kn zs) (hz : In64S zs) (k0 : -9223372036854775808 ≤ which) (k1 : which ≤ 9223372036854775807) (hd : which % 4 = 3) :
    Calls Try.prog 3 #[.agg #[.int .i64 t, .int .i64 f, .int .i64 u], .slice A n c, .slice K kn kc, .int .i64 which, .int .i64 nn] w fun e w' => e = .returned (.bool true) ∧ Below w.heap.size w w' := by
  obtain ⟨W0, hW0⟩ : ∃ W, w.alloc (.cells #[.int .i64 t, .int .i64 f, .int .i64 u] 23) = W := ⟨_, rfl⟩
  have hk : Below w.heap.size w W0 := by rw [← hW0]; exact (Below.refl _ _).alloc (Nat.le_refl _) _
  have h0 : WholeV W0 w.heap.size 23 [.int .i64 t, .int .i64 f, .int .i64 u] := by rw [← hW0]; exact heap_alloc_new w _
  have HK := Lib.hid hk
  have HK0 := Lib.hid h0
  have HLA := Lib.hid (hl.below hk)
  have HR := Lib.hid ((hr.below hk).more hk.size)
  have HZ := Lib.hid hz
  have HN := Lib.hid hl.len
  have hn' : ¬ (40 : Int) < (n : Int) := by omega
  have CW := Lib.hid (fun W => within_lit12 which 4 3 W hd k0 k1 (by omega) (by omega))
  have CD := Lib.hid (fun (m q : Nat) (hm : 0 < m) (hm2 : m ≤ 20) (hq : (which.tdiv 4) % (m : Int) = (q : Int)) W => digit_lit12 which 4 m q W hq k0 k1 (by omega) (by omega) (by omega) (by omega))
  clear hl hr hz hd k0 k1 hk h0
  go_enter Try.func3, Try.ntmps3
  go_wp2_with (first
    | (go_at_call 9; refine (awake12_any _).mono ?_; rintro e w1 ⟨rfl, hb⟩
       have HB1 := Lib.hid (HK.out.trans (hb.mono HK.out.size))
       have HV1 := Lib.hid hb
       have HL1 := Lib.hid (HLA.out.below hb)
       have HK1 := Lib.hid (HK0.out.below hb HK0.out.lt)
       clear hb)
    | (go_at_call 10
       (with_reducible refine (lentspans_any A n c l w1 HL1.out (by omega)).mono ?_)
       rintro e w2 ⟨rfl, hw2, hb2⟩
       have HB2 := Lib.hid (HB1.out.trans (hb2.mono HB1.out.size))
       have HV2 := Lib.hid (HV1.out.trans (hb2.mono HV1.out.size))
       have HL2 := Lib.hid (HL1.out.below hb2)
       have HK2 := Lib.hid (HK1.out.below hb2 HK1.out.lt)
       have HW2 := Lib.hid hw2
       clear hb2 hw2))
  obtain ⟨V, hV⟩ : ∃ V, w2 = V := ⟨_, rfl⟩
  obtain ⟨g, hg⟩ : ∃ g, w.heap.size = g := ⟨_, rfl⟩
  obtain ⟨gL, hgL⟩ : ∃ g, w1.heap.size = g := ⟨_, rfl⟩
  have hk2 := HK2.out
  have hl2 := HL2.out
  have hw2 := HW2.out
  have HBV := HB2
  have HVV := HV2
  rw [hV] at hk2 hl2 hw2 HBV HVV ⊢
  rw [hgL] at hw2 ⊢
  have hk3 : WholeV V g 23 [.int .i64 t, .int .i64 f, .int .i64 u] := by rw [← hg]; exact hk2
  have HGG := Lib.hid hg
  rw [hg] at ⊢
  clear hV hg hgL HB1 HB2 HV1 HV2 HL1 HL2 HK1 HK2 HW2 hk2
  have HLV : Hid (∀ X, Below V.heap.size V X → SL X A n l) := Lib.hid fun X hX => hl2.below hX
  have HWV : Hid (∀ X, Below V.heap.size V X → WholeV X g 23 [.int .i64 t, .int .i64 f, .int .i64 u]) := Lib.hid fun X hX => hk3.below hX hk3.lt
  have HTV : Hid (∀ X, Below V.heap.size V X → WholeV X gL 23 (sps (l ++ [spM, spM, spM]))) := Lib.hid fun X hX => hw2.below hX hw2.lt
  have HTL : Hid (∀ X, Below V.heap.size V X → SL X (some ⟨gL, 0, none⟩) n l) := Lib.hid fun X hX => sl_of_whole (vs := sps [spM, spM, spM]) (by rw [← sps_append]; exact HTV.out X hX) HN.out
  have KS : Hid (∀ X, Below V.heap.size V X → X.cell? ⟨g, 0, none⟩ = some (.int .i64 t) ∧ X.cell? ⟨g, 1, none⟩ = some (.int .i64 f) ∧ X.cell? ⟨g, 2, none⟩ = some (.int .i64 u) ∧ Below V.heap.size V X) := Lib.hid fun X hX => ⟨(HWV.out X hX).cell 0, (HWV.out X hX).cell 1, (HWV.out X hX).cell 2, hX⟩
  have KB : Hid (∀ X, (X.cell? ⟨g, 0, none⟩ = some (.int .i64 t) ∧ X.cell? ⟨g, 1, none⟩ = some (.int .i64 f) ∧ X.cell? ⟨g, 2, none⟩ = some (.int .i64 u) ∧ Below V.heap.size V X) → Below V.heap.size V X) := Lib.hid fun X hs => hs.2.2.2
  have KT : Hid (∀ X X', (X.cell? ⟨g, 0, none⟩ = some (.int .i64 t) ∧ X.cell? ⟨g, 1, none⟩ = some (.int .i64 f) ∧ X.cell? ⟨g, 2, none⟩ = some (.int .i64 u) ∧ Below V.heap.size V X) → Below X.heap.size X X' → X'.cell? ⟨g, 0, none⟩ = some (.int .i64 t) ∧ X'.cell? ⟨g, 1, none⟩ = some (.int .i64 f) ∧ X'.cell? ⟨g, 2, none⟩ = some (.int .i64 u) ∧ Below V.heap.size V X') := Lib.hid fun X X' hs hb => KS.out _ (hs.2.2.2.trans (hb.mono hs.2.2.2.size))
  obtain ⟨b1, hb1⟩ := bool_of (rightS (t, f, u))
  obtain ⟨b2, hb2⟩ := bool_of (adjS l n)
  have HC1 : Hid (∀ X, Calls Try.prog 11 #[.agg #[.int .i64 t, .int .i64 f, .int .i64 u]] X fun e w' => e = .returned (.bool b1) ∧ Below X.heap.size X w') := Lib.hid fun X => pright12 (t, f, u) b1 X hb1
  have HC2 : Hid (∀ X, Calls Try.prog 12 #[.agg #[.int .i64 t, .int .i64 f, .int .i64 u]] X fun e w' => e = .returned (.bool b1) ∧ Below X.heap.size X w') := Lib.hid fun X => rright12 (t, f, u) b1 X hb1
  have HC3 : Hid (∀ X, Below V.heap.size V X → Calls Try.prog 13 #[.slice (some ⟨gL, 0, none⟩) n (n + 3)] X fun e w' => e = .returned (.bool b2) ∧ Below X.heap.size X w') := Lib.hid fun X hX => pcanon_any _ n (n + 3) l b2 X (HTL.out X hX) hb2 (by omega)
  have HC4 : Hid (∀ X, Below V.heap.size V X → Calls Try.prog 14 #[.slice A n c] X fun e w' => e = .returned (.bool b2) ∧ Below X.heap.size X w') := Lib.hid fun X hX => rcanon_any A n c l b2 X (HLV.out X hX) hb2 (by omega)
  have HC5 : Hid (∀ X, Below V.heap.size V X → Calls Try.prog 15 #[.slice (some ⟨gL, 0, none⟩) n (n + 3), .slice A n c] X fun e w' => e = .returned (.bool true) ∧ Below X.heap.size X w') := Lib.hid fun X hX => stays_of A n c gL l X (HLV.out X hX) (HTV.out X hX) (by omega)
  have HZR : Hid (∀ X, Below V.heap.size V X → Row .i64 X X.heap.size K kn zs) := Lib.hid fun X hX => ((HR.out.below HVV.out).more HVV.out.size |>.below hX).more hX.size
  clear hb1 hb2 hw2 hk3 hl2
  cases b1 <;> cases b2
  all_goals
    go_region_held3 (fun X => X.cell? ⟨g, 0, none⟩ = some (.int .i64 t) ∧ X.cell? ⟨g, 1, none⟩ = some (.int .i64 f) ∧ X.cell? ⟨g, 2, none⟩ = some (.int .i64 u) ∧ Below V.heap.size V X)
      (first
        | exact KS.out _ (Below.refl _ _).drew
        | exact KT.out _ _ (by assumption) kA
        | exact KT.out _ _ (by assumption) kB
        | exact KT.out _ _ (by assumption) kC
        | exact KT.out _ _ (by assumption) kD
        | exact KT.out _ _ (by assumption) kE)
      (first
        | (go_at_call 11
           (with_reducible refine (HC1.out _).mono ?_)
           rintro e xA ⟨rfl, kA⟩)
        | (go_at_call 12
           (with_reducible refine (HC2.out _).mono ?_)
           rintro e xB ⟨rfl, kB⟩)
        | (go_at_call 13
           (with_reducible refine (HC3.out _ (KB.out _ ?_)).mono ?_)
           · assumption
           rintro e xC ⟨rfl, kC⟩)
        | (go_at_call 14
           (with_reducible refine (HC4.out _ (KB.out _ ?_)).mono ?_)
           · assumption
           rintro e xD ⟨rfl, kD⟩)
        | (go_at_call 15
           (with_reducible refine (HC5.out _ (KB.out _ ?_)).mono ?_)
           · assumption
           rintro e xE ⟨rfl, kE⟩))
  all_goals
    have hvx := KB.out _ (by assumption)
    have HXV := Lib.hid (HBV.out.trans (hvx.mono HBV.out.size))
    have HXZ := Lib.hid (HZR.out _ hvx)
    clear hvx
    go_upto_if 49 with (first
      | (go_at_call 16
         (with_reducible refine (lspans_any K kn kc zs _ HXZ.out HZ.out).mono ?_)
         rintro e w3 ⟨⟨B, m, d, l2, rfl, ho, hc, hm⟩, hb⟩
         have HB3 := Lib.hid (HXV.out.trans (hb.mono HXV.out.size))
         have HO3 := Lib.hid (ho.mono HXV.out.size)
         have HC := Lib.hid hc
         clear hb ho hc)
      | (go_at_call 13
         (with_reducible refine (pcanon_any B m d l2 true w3 HO3.out.sl (by simpa using adj_of_canon HO3.out.len HC.out) (by omega)).mono ?_)
         rintro e w4 ⟨rfl, hb4⟩
         have HB4 := Lib.hid (HB3.out.trans (hb4.mono HB3.out.size))
         have HO4 := Lib.hid (HO3.out.keep hb4)
         clear hb4))
    by_cases hm0 : m = 0
    · have hm1 : (m : Int) = 0 := by omega
      subst hm0
      go_wp2
      go_ret
      exact ⟨rfl, HB4.out⟩
    · have hm1 : ¬ (m : Int) = 0 := by omega
      have hm2 : 0 < m := by omega
      obtain ⟨q, hq⟩ : ∃ q : Nat, (which.tdiv 4) % (m : Int) = (q : Int) := ⟨((which.tdiv 4) % (m : Int)).toNat, by
        have := Int.emod_nonneg (which.tdiv 4) (show (m : Int) ≠ 0 by omega)
        omega⟩
      have hqm : q < m := by
        have := Int.emod_lt_of_pos (which.tdiv 4) (show (0 : Int) < (m : Int) by omega)
        omega
      have hqm2 : (q : Int) < (m : Int) := by omega
      have hq0 : (0 : Int) ≤ (q : Int) := by omega
      have CQ := Lib.hid (fun W => CD.out m q hm2 hm hq W)
      obtain ⟨bx, off, hB, hge, hfz, p0, p1, p2⟩ := HO4.out.own q hqm
      subst hB
      obtain ⟨⟨st, sf, su⟩, hs⟩ : ∃ s, l2.getD q sp0 = s := ⟨_, rfl⟩
      rw [hs] at p0 p1 p2
      dsimp only at p0 p1 p2
      obtain ⟨b3, hb3⟩ := bool_of (adjS (l2 ++ [(st, sf, su)]) (m + 1))
      have HD3 := Lib.hid hb3
      have HSZ : Hid (w.heap.size ≤ w4.heap.size) := Lib.hid HB4.out.size
      clear hb3 hfz hge hs
      clear hq
      go_wp2_with (first
        | (go_at_call 17; (with_reducible refine (CQ.out _).mono ?_); rintro e w' ⟨rfl, rfl⟩)
        | (go_at_call 18; (with_reducible refine (CW.out _).mono ?_); rintro e w' ⟨rfl, rfl⟩)
        | (at_builtin; (with_reducible show wpList Try.prog _ _ ((⟨some 85, _, _, _, _, _⟩ : Oper) :: _) _ _); refine wpList_append_keep (o := ⟨some 85, _, _, _, _, _⟩) rfl _ _ rfl w.heap.size (.slice (some ⟨bx, off, none⟩) m d) m (m + 1) l2 (l2 ++ [(st, sf, su)]) rfl HO4.out st sf su rfl rfl _ rfl (by first | rfl | simp) (by omega) HSZ.out 23 ?_
           intro A5 c5 w5 ho5 hg5 hq5
           have HN5 := Lib.hid ho5.sl
           have HB5 := Lib.hid (HB4.out.grown hg5 HSZ.out HO4.out.ge)
           clear ho5 hg5 hq5)
        | (go_at_call 13
           (with_reducible refine (pcanon_any A5 (m + 1) c5 _ b3 w5 HN5.out HD3.out (by omega)).mono ?_)
           rintro e w6 ⟨rfl, hb6⟩
           have HN6 := Lib.hid (HN5.out.below hb6)
           have HB6 := Lib.hid (HB5.out.trans (hb6.mono HB5.out.size))
           clear hb6)
        | (go_at_call 14
           (with_reducible refine (rcanon_any A5 (m + 1) c5 _ b3 w6 HN6.out HD3.out (by omega)).mono ?_)
           rintro e w7 ⟨rfl, hb7⟩
           have HB7 := Lib.hid (HB6.out.trans (hb7.mono HB6.out.size))
           clear hb7))
      go_ret
      exact ⟨by cases b3 <;> rfl, HB7.out⟩

theorem walk (a0t a0f a0u : Int) (a1 : Option Addr) (len1 cap1 : Nat) (z1 : List Sp) (a2 : Option Addr) (len2 cap2 : Nat) (z2 : List Int) (a3 : Int) (a4 : Int) (w : World) (w1 : IsSpans w a1 len1 cap1 z1) (w2 : IsRow .i64 w a2 len2 cap2 z2) (w3 : (Lit.int .i64 a3).wf = true) (w4 : (Lit.int .i64 a4).wf = true) :
    Calls Try.prog 3 #[.agg #[.int .i64 a0t, .int .i64 a0f, .int .i64 a0u], .slice a1 len1 cap1, .slice a2 len2 cap2, .int .i64 a3, .int .i64 a4] w fun e w' => e = .returned (.bool true) ∧ Below w.heap.size w w' := by
  by_cases hn : len1 ≤ 40
  · rcases (show a3 % 4 = 0 ∨ a3 % 4 = 1 ∨ a3 % 4 = 2 ∨ a3 % 4 = 3 by omega) with h | h | h | h
    · exact tells_0 a0t a0f a0u a1 len1 cap1 z1 a2 len2 cap2 _ a3 a4 w w1.1 hn w2.row (fun k hk => bounds_i64 (w2.wf k hk)) (bounds_i64 w3).1 (bounds_i64 w3).2 h
    · exact tells_1 a0t a0f a0u a1 len1 cap1 z1 a2 len2 cap2 _ a3 a4 w w1.1 hn w2.row (fun k hk => bounds_i64 (w2.wf k hk)) (bounds_i64 w3).1 (bounds_i64 w3).2 h
    · exact tells_2 a0t a0f a0u a1 len1 cap1 z1 a2 len2 cap2 _ a3 a4 w w1.1 hn w2.row (fun k hk => bounds_i64 (w2.wf k hk)) (bounds_i64 w3).1 (bounds_i64 w3).2 h
    · exact tells_3 a0t a0f a0u a1 len1 cap1 z1 a2 len2 cap2 _ a3 a4 w w1.1 hn w2.row (fun k hk => bounds_i64 (w2.wf k hk)) (bounds_i64 w3).1 (bounds_i64 w3).2 h
  · exact tells_long a0t a0f a0u a1 len1 cap1 a2 len2 cap2 a3 a4 w (by omega)

set_option maxRecDepth 100000 in
theorem lifted (os : Os) (started : os.Started) (H : Type) (enc : TypeId × Value → H) :
    ReturnsInHanded {} Try.checked os 3 .any (Rows.spanTellsSpec.pre6 enc Try.prog Try.f3 Rows.spanTellsRow.domain false) (Rows.spanTellsSpec.post enc Try.prog Try.f3 false true false false) := by
  refine returnsInHanded_of_change (C := Try.checked) own started (by kernel_rfl) Try.func3
    (ChangeSpec.witness6 (enc := enc) (C := Try.checked) false ⟨#[], #[.agg #[.int .i64 0, .int .i64 0, .int .i64 0], .slice none 0 0, .slice none 0 0, .int .i64 0, .int .i64 0], []⟩ 8 (by kernel_rfl) (by kernel_rfl) (by kernel_rfl) (by kernel_rfl)) ?_
  intro W base args ds gs before hval0 hW hcnd _
  have hval : ∀ (j : Nat) t v, Try.f3.params[j]? = some t → args[j]? = some v → Value.okWide Try.prog W .any base t v := hval0
  have hW' := hW
  obtain ⟨p, q, hA0, hV, rfl, hfz, hnd⟩ := hW
  have hA : DataW.TrodAll enc Try.prog W 0 (fun _ => true) true Try.f3.params.toList args.toList ds p := hA0
  rw [Try.params3] at hA hval
  obtain ⟨v0, vs0, d0, ds0, p0, q0, hargs, rfl, rfl, h0, r0⟩ := trodAll_cons hA
  obtain ⟨v1, vs1, d1, ds1, p1, q1, rfl, rfl, rfl, h1, r1⟩ := trodAll_cons r0
  obtain ⟨v2, vs2, d2, ds2, p2, q2, rfl, rfl, rfl, h2, r2⟩ := trodAll_cons r1
  obtain ⟨v3, vs3, d3, ds3, p3, q3, rfl, rfl, rfl, h3, r3⟩ := trodAll_cons r2
  obtain ⟨v4, vs4, d4, ds4, p4, q4, rfl, rfl, rfl, h4, r4⟩ := trodAll_cons r3
  obtain ⟨rfl, rfl, rfl⟩ := trodAll_nil r4
  obtain rfl : args = #[v0, v1, v2, v3, v4] := by cases args; simp_all
  obtain ⟨rfl, rfl⟩ := trodVars_none hV
  have k0 := h0
  have lt0 : ∀ x ∈ p0, x.block < W.heap.size := by obtain ⟨m, hm⟩ := k0; exact DataW.trod_lt m _ _ _ hm
  obtain ⟨a0t, a0f, a0u, rfl⟩ := open_span (hval 0 23 v0 rfl rfl) h0
  obtain ⟨a1, len1, cap1, rfl⟩ := okWide_slice Try.underlying24 (hval 1 24 v1 rfl rfl)
  have k1 := h1
  have lt1 : ∀ x ∈ p1, x.block < W.heap.size := by obtain ⟨m, hm⟩ := k1; exact DataW.trod_lt m _ _ _ hm
  obtain ⟨z1, w1⟩ : ∃ zs, IsSpans W a1 len1 cap1 zs := by
    obtain ⟨fuel, hf⟩ := h1
    obtain ⟨A, n, c, os, hcs, ho⟩ := open_spans hf
    simp [Value.cells] at hcs
    obtain ⟨rfl, rfl, rfl⟩ := hcs
    exact ⟨os, ho⟩
  obtain ⟨a2, len2, cap2, rfl⟩ := okWide_slice Try.underlying25 (hval 2 25 v2 rfl rfl)
  have k2 := h2
  have lt2 : ∀ x ∈ p2, x.block < W.heap.size := by obtain ⟨m, hm⟩ := k2; exact DataW.trod_lt m _ _ _ hm
  obtain ⟨z2, w2⟩ : ∃ zs, IsRow .i64 W a2 len2 cap2 zs := by
    obtain ⟨fuel, hf⟩ := h2
    rcases open_ints Try.underlying25 Try.underlying3 (by kernel_rfl) hf with ⟨hcs, _⟩ | ⟨x, l, c, zs, hcs, _, hl, hm, hz, _, hcell, hwz⟩
    · simp [Value.cells] at hcs
      obtain ⟨rfl, rfl, rfl⟩ := hcs
      exact ⟨[], .inl ⟨rfl, rfl, rfl, rfl⟩⟩
    · simp [Value.cells] at hcs
      obtain ⟨rfl, rfl, rfl⟩ := hcs
      exact ⟨zs, .inr ⟨_, rfl, hl, hm, by simpa using hz, hcell, hwz⟩⟩
  obtain ⟨a3, rfl, rfl, rfl, w3⟩ := open_int Try.underlying3 (hval 3 3 v3 rfl rfl) h3
  obtain ⟨a4, rfl, rfl, rfl, w4⟩ := open_int Try.underlying3 (hval 4 3 v4 rfl rfl) h4
  clear hA0 hval0
  refine (walk a0t a0f a0u a1 len1 cap1 z1 a2 len2 cap2 z2 a3 a4 W w1 w2 w3 w4).mono fun e W' ⟨he, bel⟩ => ?_
  subst he
  exact ⟨_, rfl, _, _, _, [], _, [], hW', trodAll_mk1 (shut_bool Try.underlying4 _), (trodAll_cons_mk (Below.trod laidOut (by kernel_rfl) (of_decide_eq_true (by kernel_rfl)) k0 bel lt0) (trodAll_cons_mk (Below.trod laidOut (by kernel_rfl) (of_decide_eq_true (by kernel_rfl)) k1 bel lt1) (trodAll_cons_mk (Below.trod laidOut (by kernel_rfl) (of_decide_eq_true (by kernel_rfl)) k2 bel lt2) (trodAll_cons_mk (shut_int Try.underlying3 w3) (trodAll_cons_mk (shut_int Try.underlying3 w4) trodAll_mk0))))), rfl, bel.frame _, fun h => by cases h⟩

theorem over : Rows.spanTellsRow.holds Try.pinned (OpenSpec.ofChange Rows.spanTellsSpec) :=
  OpenClaim.holds_of_wide 3 Try.f3 rfl rfl rfl rfl rfl rfl rfl ⟨rfl, rfl, rfl, rfl, rfl⟩ rfl rfl rfl rfl rfl (by kernel_rfl) Try.func3 (by kernel_rfl)
    (of_decide_eq_true (by kernel_rfl)) (by unfold Func.isWrapper; first | (rw [if_pos (by decide +kernel)]; kernel_rfl) | (rw [if_neg (by decide +kernel)]; exact ⟨rfl, rfl⟩))
    (fun os started H enc _ => lifted os started H enc)

theorem proved : Rows.SpanTellsSaid := over
#print axioms proved
end Go.Proofs.Ytlnmdepaobocnaa.spanTells

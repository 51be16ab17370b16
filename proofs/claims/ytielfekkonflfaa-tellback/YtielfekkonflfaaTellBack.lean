/- Proved: for every three ints, every slice of words, every slice of bools and every byte, busbarlaw6.TellBack returns true, and its arguments read as before. Conditions: none. -/
import Derived.Test.YtielfekkonflfaaJTellBack15
import Derived.Test.YtielfekkonflfaaJTellBack6
import Derived.Test.YtielfekkonflfaaJTellBack5
namespace Go.Proofs.Ytielfekkonflfaa.tellBack
open Go.ChangeShapes Go.WideShapes Go.ChangeAt Go.RowKit
open Go.ChangeMaps (open_string shut_string)
set_option linter.unusedVariables false


theorem u8_bounds (x : Int) : 0 ≤ IntKind.u8.wrap x ∧ IntKind.u8.wrap x ≤ 255 := by
  rw [IntKind.wrap_u8]
  omega
theorem own_cap7 {w : World} {base : Nat} {e : TypeId} {A : Option Addr} {n c : Nat} {xs : List Value} (h : w.ownsRow base e 1 (.slice A n c) n xs) : n ≤ c := by
  rcases h.2 with ⟨e, h0⟩ | ⟨g, cap, cur, e, _, _, hnc, _⟩
  · omega
  · injection e with _ _ e
    omega

set_option maxRecDepth 100000 in
set_option maxHeartbeats 4000000 in
theorem back_any (k v a z m : Int) (WS LS : Option Addr) (wn wsc ln lc : Nat) (vs : List Int) (ls : List Bool) (w : World) (hws : Row .u16 w w.heap.size WS wn vs) (hls : BRow w w.heap.size LS ln ls) (hvs : Words vs) (hwn : 1 ≤ wn ∧ wn ≤ 125) (hln : 1 ≤ ln ∧ ln ≤ 200)
    (k0 : -9223372036854775808 ≤ k) (k1 : k ≤ 9223372036854775807) (v0 : -9223372036854775808 ≤ v) (v1 : v ≤ 9223372036854775807) (a0 : -9223372036854775808 ≤ a) (a1 : a ≤ 9223372036854775807) (z0 : 0 ≤ z) (z1 : z ≤ 255) (m0 : -9223372036854775808 ≤ m) (m1 : m ≤ 9223372036854775807) :
    Calls Try.prog 3 #[.int .i64 k, .int .i64 v, .slice WS wn wsc, .slice LS ln lc, .int .i64 a, .int .u8 z, .int .i64 m] w fun e w' => e = .returned (.bool true) ∧ Below w.heap.size w w' := by
  have q1 : ¬ (wn : Int) < 1 := by omega
  have q2 : ¬ (125 : Int) < (wn : Int) := by omega
  have q3 : ¬ (ln : Int) < 1 := by omega
  have q4 : ¬ (200 : Int) < (ln : Int) := by omega
  obtain ⟨fn, ex, bl, wl, at_, q, v2, an, orr, co, le, mo, nx, ol, bs, ws, os, L, E, hbl, hwl, hol, hL3, hL253, hX, hLe, hmade, hbytes, hparse, hright⟩ := back_parts k v wn ln vs ls k0 k1 v0 v1 hws.1 hls.1 hvs hwn hln
  have HM := Lib.hid hmade
  have HY := Lib.hid hbytes
  have HPR := Lib.hid hparse
  have HRI := Lib.hid hright
  have HX := Lib.hid hX
  have HLe := Lib.hid hLe
  have HWS := Lib.hid hws
  have HLS := Lib.hid hls
  obtain ⟨j, hj⟩ : ∃ j : Nat, a % (L : Int) = (j : Int) := ⟨(a % (L : Int)).toNat, by have := Int.emod_nonneg a (show (L : Int) ≠ 0 by omega); omega⟩
  have hjL : j < L := by have := Int.emod_lt_of_pos a (show (0 : Int) < (L : Int) by omega); omega
  obtain ⟨r, hr⟩ : ∃ r : Nat, m % ((L : Int) + 4) = (r : Int) := ⟨(m % ((L : Int) + 4)).toNat, by have := Int.emod_nonneg m (show (L : Int) + 4 ≠ 0 by omega); omega⟩
  have hrL : r < L + 4 := by have := Int.emod_lt_of_pos m (show (0 : Int) < (L : Int) + 4 by omega); omega
  have CWJ := Lib.hid (fun W => within_any a (L : Int) W a0 a1 (by omega) (by omega))
  rw [hj] at CWJ
  have CWR := Lib.hid (fun W => within_any m ((L : Int) + 4) W m0 m1 (by omega) (by omega))
  rw [hr] at CWR
  have hj0 : (j : Int) < (L : Int) := by omega
  have hjn : (0 : Int) ≤ (j : Int) := by omega
  clear hj hr hmade hbytes hparse hright hX hLe hws hls hvs
  go_enter Try.func3, Try.ntmps3
  go_wp2_with fail
  refine (awake_any _).mono ?_
  rintro e w1 ⟨rfl, hb1⟩
  have HB1 := Lib.hid hb1
  have HWS1 := Lib.hid ((HWS.out.below hb1).more hb1.size)
  have HLS1 := Lib.hid ((HLS.out.below hb1).more hb1.size)
  clear hb1
  go_wp2_with fail
  refine (HM.out _ WS wsc LS lc HWS1.out HLS1.out).mono ?_
  rintro e w2 ⟨BA, bc, WA, wc, OA, oc, rfl, hB, hW, hO, hb2⟩
  have hk2 : Below w2.heap.size w2 (w2.alloc (.cells #[.int .i64 fn, .int .i64 ex, .slice BA bl bc, .slice WA wl wc, .int .i64 at_, .int .i64 q, .int .u16 v2, .int .u16 an, .int .u16 orr, .int .i64 co, .int .i64 le, .bool mo, .int .i64 nx, .slice OA ol oc] 28)) := (Below.refl _ _).alloc (Nat.le_refl _) _
  have h2 : WholeV (w2.alloc (.cells #[.int .i64 fn, .int .i64 ex, .slice BA bl bc, .slice WA wl wc, .int .i64 at_, .int .i64 q, .int .u16 v2, .int .u16 an, .int .u16 orr, .int .i64 co, .int .i64 le, .bool mo, .int .i64 nx, .slice OA ol oc] 28)) w2.heap.size 28 [.int .i64 fn, .int .i64 ex, .slice BA bl bc, .slice WA wl wc, .int .i64 at_, .int .i64 q, .int .u16 v2, .int .u16 an, .int .u16 orr, .int .i64 co, .int .i64 le, .bool mo, .int .i64 nx, .slice OA ol oc] := heap_alloc_new w2 _
  have HA2 := Lib.hid h2
  have HB2 := Lib.hid (HB1.out.trans ((hb2.trans (hk2.mono hb2.size)).mono HB1.out.size))
  have HBR2 := Lib.hid ((hB.below hk2).more hk2.size)
  have HWR2 := Lib.hid ((hW.below hk2).more hk2.size)
  have HOR2 := Lib.hid (hO.below hk2)
  clear hB hW hO hb2 hk2 h2
  go_wp2_with fail
  refine (HY.out _ BA bc WA wc OA oc HBR2.out HWR2.out HOR2.out).mono ?_
  rintro e w3 ⟨C, cap, rfl, hcap, hrow3, hb3⟩
  have a3 := HA2.out.below hb3 HA2.out.lt
  have HB3 := Lib.hid (HB2.out.trans (hb3.mono HB2.out.size))
  have HR3 := Lib.hid hrow3
  have HBR3 := Lib.hid ((HBR2.out.below hb3).more hb3.size)
  have HWR3 := Lib.hid ((HWR2.out.below hb3).more hb3.size)
  have HOR3 := Lib.hid (HOR2.out.below hb3)
  have HA3 := Lib.hid a3
  clear hb3 hrow3 a3
  go_wp2_with fail
  refine (HPR.out C cap _ HR3.out hcap).mono ?_
  rintro e w4 ⟨BB, bd, WB, wd, OB, od, rfl, hob, how, hoo, hb4⟩
  have hk4 : Below w4.heap.size w4 (w4.alloc (.cells #[.int .i64 fn, .int .i64 ex, .slice BB bl bd, .slice WB wl wd, .int .i64 at_, .int .i64 q, .int .u16 v2, .int .u16 an, .int .u16 orr, .int .i64 co, .int .i64 le, .bool mo, .int .i64 nx, .slice OB ol od] 28)) := (Below.refl _ _).alloc (Nat.le_refl _) _
  have hb4a := hb4.trans (hk4.mono hb4.size)
  have h4 : WholeV (w4.alloc (.cells #[.int .i64 fn, .int .i64 ex, .slice BB bl bd, .slice WB wl wd, .int .i64 at_, .int .i64 q, .int .u16 v2, .int .u16 an, .int .u16 orr, .int .i64 co, .int .i64 le, .bool mo, .int .i64 nx, .slice OB ol od] 28)) w4.heap.size 28 [.int .i64 fn, .int .i64 ex, .slice BB bl bd, .slice WB wl wd, .int .i64 at_, .int .i64 q, .int .u16 v2, .int .u16 an, .int .u16 orr, .int .i64 co, .int .i64 le, .bool mo, .int .i64 nx, .slice OB ol od] := heap_alloc_new w4 _
  have a4 := HA3.out.below hb4a HA3.out.lt
  have HB4 := Lib.hid (HB3.out.trans (hb4a.mono HB3.out.size))
  have HR4 := Lib.hid ((HR3.out.below hb4a).more hb4a.size)
  have HBR4 := Lib.hid ((HBR3.out.below hb4a).more hb4a.size)
  have HWR4 := Lib.hid ((HWR3.out.below hb4a).more hb4a.size)
  have HOR4 := Lib.hid (HOR3.out.below hb4a)
  have HE4 := Lib.hid (((own_row hob).bools.below hk4).more hk4.size)
  have HF4 := Lib.hid (((own_row how).ints.below hk4).more hk4.size)
  have HG4 := Lib.hid (ol_of_own (own2_keep hoo hk4))
  obtain ⟨hq0, hq1, hq2, hq3, hq4, hq5, hq6, hq7, hq8, hq9, hq10, hq11, hq12, hq13⟩ := cells14 (HA3.out.below hb4 HA3.out.lt)
  have hz4 : w2.heap.size < w4.heap.size := Nat.lt_of_lt_of_le HA3.out.lt hb4.size
  have H4 := Lib.hid h4
  have HA4 := Lib.hid a4
  clear hob how hoo hb4 hk4 hb4a h4 a4 HR3 HBR3 HWR3 HOR3 HA3
  go_wp2_with fail
  refine (HRI.out _ BA bc WA wc OA oc HBR4.out HWR4.out HOR4.out).mono ?_
  rintro e w5 ⟨rfl, hb5⟩
  have a5 := HA4.out.below hb5 HA4.out.lt
  have d5 := H4.out.below hb5 H4.out.lt
  have hz5 : w4.heap.size < w5.heap.size := d5.lt
  obtain ⟨hs0, hs1, hs2, hs3, hs4, hs5, hs6, hs7, hs8, hs9, hs10, hs11, hs12, hs13⟩ := cells14 a5
  obtain ⟨ht0, ht1, ht2, ht3, ht4, ht5, ht6, ht7, ht8, ht9, ht10, ht11, ht12, ht13⟩ := cells14 d5
  have HB5 := Lib.hid (HB4.out.trans (hb5.mono HB4.out.size))
  have HR5 := Lib.hid ((HR4.out.below hb5).more hb5.size)
  have HBR5 := Lib.hid ((HBR4.out.below hb5).more hb5.size)
  have HWR5 := Lib.hid ((HWR4.out.below hb5).more hb5.size)
  have HOR5 := Lib.hid (HOR4.out.below hb5)
  have HE5 := Lib.hid ((HE4.out.below hb5).more hb5.size)
  have HF5 := Lib.hid ((HF4.out.below hb5).more hb5.size)
  have HG5 := Lib.hid (HG4.out.below hb5)
  clear hb5 a5 d5 hq0 hq1 hq2 hq3 hq4 hq5 hq6 hq7 hq8 hq9 hq10 hq11 hq12 hq13 HR4 HBR4 HWR4 HOR4 HE4 HF4 HG4 H4 HA4
  go_wp2_with fail
  refine (sametell_yes fn ex at_ q v2 an orr co le mo nx bs ws os bl wl ol BA WA OA BB WB OB bc wc oc bd wd od _ HBR5.out HE5.out HWR5.out HF5.out HOR5.out HG5.out hbl hwl hol).mono ?_
  rintro e w6 ⟨rfl, hb6⟩
  have HB6 := Lib.hid (HB5.out.trans (hb6.mono HB5.out.size))
  have HR6 := Lib.hid ((HR5.out.below hb6).more hb6.size)
  have HO0 := Lib.hid (own_none w6 w.heap.size 5)
  clear hb6 hs0 hs1 hs2 hs3 hs4 hs5 hs6 hs7 hs8 hs9 hs10 hs11 hs12 hs13 ht0 ht1 ht2 ht3 ht4 ht5 ht6 ht7 ht8 ht9 ht10 ht11 ht12 ht13 HR5 HBR5 HWR5 HOR5 HE5 HF5 HG5
  rcases Nat.lt_or_ge L r with hlr | hlr
  · obtain ⟨t, rfl⟩ : ∃ t, r = L + t := ⟨r - L, by omega⟩
    have hrl : ¬ (((L + t : Nat) : Int) ≤ (L : Int)) := by omega
    have hrc : (0 : Int) ≤ ((L + t : Nat) : Int) := by omega
    go_wp2_with (first
      | (at_builtin
         refine wpList_append_row _ (o := ⟨some 83, _, _, _, _, _⟩) rfl (.const (.slice none 0 0)) (.tmp 82) 30 rfl w.heap.size 5 (.int .u8 0) 1 Try.underlying30 info5 rfl (.slice none 0 0) 0 [] rfl HO0.out _ _ L cap _ rfl HR6.out.v (one_cells _ _) (by omega) (by omega) HB6.out.size ?_
         intro v2_ w7 hown hg2 hat
         rw [Nat.zero_add, List.nil_append] at hown
         have hc4' := hown
         obtain ⟨g, c4, rfl, hgb, hrow, hfr, hset⟩ := own_open hown (by omega)
         have hc4 := own_cap7 hc4'
         have HB7 := Lib.hid (below_append HB6.out HO0.out hg2 HB6.out.size)
         obtain ⟨b', off', e', _, hcell⟩ := hrow.2 (by omega)
         injection e' with e'
         injection e' with e1 e2
         subst e1 e2
         have hcg := hcell j (by omega)
         obtain ⟨u, hu⟩ : ∃ u, E[j]? = some u := ⟨_, List.getElem?_eq_getElem (by rw [HLe.out]; omega)⟩
         have HU := Lib.hid hu
         rw [Nat.zero_add, List.getElem?_map, hu, Option.map_some] at hcg
         have hfg := hfr j
         obtain ⟨qq, hq⟩ : ∃ qq, IntKind.u8.wrap (u + z) = qq := ⟨_, rfl⟩
         have HQ := Lib.hid hq
         have HS := Lib.hid (hset j (.int .u8 qq))
         have HGB := Lib.hid hgb
         clear hown hc4' hg2 hat hrow hfr hset hcell hu)
      | (go_at_call 11; (with_reducible refine (CWJ.out _).mono ?_); rintro e w' ⟨rfl, rfl⟩)
      | (go_at_call 11; (with_reducible refine (CWR.out _).mono ?_); rintro e w' ⟨rfl, rfl⟩)
      | (at_builtin
         refine wpList_append_made _ (o := ⟨some 111, _, _, _, _, _⟩) rfl (.tmp 106) (.tmp 110) 30 3 rfl w.heap.size 5 (.int .u8 0) 1 Try.underlying30 Try.underlying3 info5 rfl rfl (.slice (some ⟨g, 0, none⟩) L c4) L _ rfl HS.out (by omega) t (by show Value.int IntKind.i64 ((L : Int) + (t : Int) - (L : Int)) = _; rw [show (L : Int) + (t : Int) - (L : Int) = (t : Int) by omega]) (by omega) (by omega) (by omega) (HB7.out.setCell (p := ⟨g, j, none⟩) hgb _).size ?_
         intro v3 w8 hown8 hg8 hat8
         obtain ⟨A8, c8, rfl⟩ := own_slice hown8
         have HBW := Lib.hid (below_append (HB7.out.setCell (p := ⟨g, j, none⟩) hgb _) HS.out hg8 (HB7.out.setCell (p := ⟨g, j, none⟩) hgb _).size)
         have HO8 := Lib.hid hown8
         clear hown8 hg8 hat8))
    have hqb : 0 ≤ qq ∧ qq ≤ 255 := by rw [← HQ.out]; exact u8_bounds _
    obtain ⟨ys, hys⟩ : ∃ ys, E.set j qq ++ List.replicate t 0 = ys := ⟨_, rfl⟩
    have hmap : (E.map (Value.int .u8)).set j (.int .u8 qq) ++ List.replicate t (.int .u8 0) = ys.map (Value.int .u8) := by rw [← hys, List.map_append, List.map_set, List.map_replicate]
    have HTy : Hid (Bytes8 ys) := by
      rw [← hys]
      intro y' hy
      rcases List.mem_append.1 hy with hy | hy
      · rcases List.mem_or_eq_of_mem_set hy with h | h
        · exact HX.out y' h
        · omega
      · rw [List.eq_of_mem_replicate hy]
        omega
    have HLy : Hid (ys.length = L + t) := by show _ = _; rw [← hys, List.length_append, List.length_set, List.length_replicate, HLe.out]
    have hown9 := HO8.out
    rw [hmap] at hown9
    obtain ⟨g8, rfl, hc, hrow8⟩ := own_told hown9 (by omega)
    have HT := Lib.hid hrow8
    have hc2 : 2 ≤ L + t → c8 ≠ 2 := by omega
    clear hys hmap hcg hfg hown9 hrow8
    obtain ⟨yfn, yex, ybl, ywl, yat_, yq, yv2, yan, yorr, yco, yle, ymo, ynx, yol, ybs, yws, yos, yE, hybl, hywl, hyol, hpa, hdo⟩ := ends_in ys (L + t) (ln : Int) HTy.out HLy.out (by omega) (by omega) (by omega)
    have HPA := Lib.hid hpa
    have HDO := Lib.hid hdo
    clear hpa hdo
    go_wp2_with fail
    refine (HPA.out _ 0 c8 _ ⟨HT.out, hc, hc2⟩).mono ?_
    rintro e w9 ⟨BC, be, WC, we, OC, oe, rfl, hob, how, hoo, hb9⟩
    have hk9 : Below w9.heap.size w9 (w9.alloc (.cells #[.int .i64 yfn, .int .i64 yex, .slice BC ybl be, .slice WC ywl we, .int .i64 yat_, .int .i64 yq, .int .u16 yv2, .int .u16 yan, .int .u16 yorr, .int .i64 yco, .int .i64 yle, .bool ymo, .int .i64 ynx, .slice OC yol oe] 28)) := (Below.refl _ _).alloc (Nat.le_refl _) _
    have hb9a := hb9.trans (hk9.mono hb9.size)
    have h9 : WholeV (w9.alloc (.cells #[.int .i64 yfn, .int .i64 yex, .slice BC ybl be, .slice WC ywl we, .int .i64 yat_, .int .i64 yq, .int .u16 yv2, .int .u16 yan, .int .u16 yorr, .int .i64 yco, .int .i64 yle, .bool ymo, .int .i64 ynx, .slice OC yol oe] 28)) w9.heap.size 28 [.int .i64 yfn, .int .i64 yex, .slice BC ybl be, .slice WC ywl we, .int .i64 yat_, .int .i64 yq, .int .u16 yv2, .int .u16 yan, .int .u16 yorr, .int .i64 yco, .int .i64 yle, .bool ymo, .int .i64 ynx, .slice OC yol oe] := heap_alloc_new w9 _
    have H9 := Lib.hid h9
    have HB9 := Lib.hid (HBW.out.trans (hb9a.mono HBW.out.size))
    have HT9 := Lib.hid ((HT.out.below hb9a).more hb9a.size)
    have HA9 := Lib.hid (((own_row hob).bools.below hk9).more hk9.size)
    have HD9 := Lib.hid (((own_row how).ints.below hk9).more hk9.size)
    have HG9 := Lib.hid (ol_of_own (own2_keep hoo hk9))
    clear hob how hoo hb9 hk9 hb9a h9
    go_wp2_with fail
    refine (HDO.out _ c8 _ HT9.out hc).mono ?_
    rintro e w10 ⟨BD, bf, WD, wf, OD, of_, rfl, hob, how, hoo, hb10⟩
    have hk10 : Below w10.heap.size w10 (w10.alloc (.cells #[.int .i64 yfn, .int .i64 yex, .slice BD ybl bf, .slice WD ywl wf, .int .i64 yat_, .int .i64 yq, .int .u16 yv2, .int .u16 yan, .int .u16 yorr, .int .i64 yco, .int .i64 yle, .bool ymo, .int .i64 ynx, .slice OD yol of_] 28)) := (Below.refl _ _).alloc (Nat.le_refl _) _
    have hb10a := hb10.trans (hk10.mono hb10.size)
    have h10 := H9.out.below hb10 H9.out.lt
    have hz10 : w9.heap.size < w10.heap.size := h10.lt
    obtain ⟨hv0, hv1, hv2, hv3, hv4, hv5, hv6, hv7, hv8, hv9, hv10, hv11, hv12, hv13⟩ := cells14 h10
    have HB10 := Lib.hid (HB9.out.trans (hb10a.mono HB9.out.size))
    have HA10 := Lib.hid ((HA9.out.below hb10a).more hb10a.size)
    have HD10 := Lib.hid ((HD9.out.below hb10a).more hb10a.size)
    have HG10 := Lib.hid (HG9.out.below hb10a)
    have HE10 := Lib.hid (((own_row hob).bools.below hk10).more hk10.size)
    have HF10 := Lib.hid (((own_row how).ints.below hk10).more hk10.size)
    have HH10 := Lib.hid (ol_of_own (own2_keep hoo hk10))
    clear hob how hoo hb10 hk10 hb10a h10
    go_wp2_with fail
    refine (sametell_yes yfn yex yat_ yq yv2 yan yorr yco yle ymo ynx ybs yws yos ybl ywl yol BC WC OC BD WD OD be we oe bf wf of_ _ HA10.out HE10.out HD10.out HF10.out HG10.out HH10.out hybl hywl hyol).mono ?_
    rintro e w11 ⟨rfl, hb11⟩
    have HB11 := Lib.hid (HB10.out.trans (hb11.mono HB10.out.size))
    clear hb11
    go_wp2
    go_ret
    exact ⟨rfl, HB11.out⟩
  · have hrl : (r : Int) ≤ (L : Int) := by omega
    have hr0 : (0 : Int) ≤ (r : Int) := by omega
    go_wp2_with (first
      | (at_builtin
         refine wpList_append_row _ (o := ⟨some 83, _, _, _, _, _⟩) rfl (.const (.slice none 0 0)) (.tmp 82) 30 rfl w.heap.size 5 (.int .u8 0) 1 Try.underlying30 info5 rfl (.slice none 0 0) 0 [] rfl HO0.out _ _ L cap _ rfl HR6.out.v (one_cells _ _) (by omega) (by omega) HB6.out.size ?_
         intro v2_ w7 hown hg2 hat
         rw [Nat.zero_add, List.nil_append] at hown
         have hc4' := hown
         obtain ⟨g, c4, rfl, hgb, hrow, hfr, hset⟩ := own_open hown (by omega)
         have hc4 := own_cap7 hc4'
         have HB7 := Lib.hid (below_append HB6.out HO0.out hg2 HB6.out.size)
         obtain ⟨b', off', e', _, hcell⟩ := hrow.2 (by omega)
         injection e' with e'
         injection e' with e1 e2
         subst e1 e2
         have hcg := hcell j (by omega)
         obtain ⟨u, hu⟩ : ∃ u, E[j]? = some u := ⟨_, List.getElem?_eq_getElem (by rw [HLe.out]; omega)⟩
         have HU := Lib.hid hu
         rw [Nat.zero_add, List.getElem?_map, hu, Option.map_some] at hcg
         have hfg := hfr j
         obtain ⟨qq, hq⟩ : ∃ qq, IntKind.u8.wrap (u + z) = qq := ⟨_, rfl⟩
         have HQ := Lib.hid hq
         have HS := Lib.hid (hset j (.int .u8 qq))
         have HGB := Lib.hid hgb
         clear hown hc4' hg2 hat hrow hfr hset hcell hu)
      | (go_at_call 11; (with_reducible refine (CWJ.out _).mono ?_); rintro e w' ⟨rfl, rfl⟩)
      | (go_at_call 11; (with_reducible refine (CWR.out _).mono ?_); rintro e w' ⟨rfl, rfl⟩))
    have hqb : 0 ≤ qq ∧ qq ≤ 255 := by rw [← HQ.out]; exact u8_bounds _
    obtain ⟨ys, hys⟩ : ∃ ys, (E.set j qq).take r = ys := ⟨_, rfl⟩
    have HTy : Hid (Bytes8 ys) := by
      rw [← hys]
      intro y' hy
      rcases List.mem_or_eq_of_mem_set (List.mem_of_mem_take hy) with h | h
      · exact HX.out y' h
      · omega
    have HLy : Hid (ys.length = r) := by show _ = _; rw [← hys, List.length_take, List.length_set, HLe.out]; omega
    obtain ⟨W, hW⟩ : ∃ W, w7.setCell ⟨g, j, none⟩ (.int .u8 qq) = W := ⟨_, rfl⟩
    have HBW : Hid (Below w.heap.size w W) := by rw [← hW]; exact HB7.out.setCell (p := ⟨g, j, none⟩) HGB.out _
    have HT : Hid (Row .u8 W W.heap.size (some ⟨g, 0, none⟩) r ys) := by
      have h := HS.out
      rw [hW, ← List.map_set] at h
      rw [← hys]
      exact take_row (own_row h).ints r (by omega)
    have hc : r ≤ c4 := by omega
    have hc2 : 2 ≤ r → c4 ≠ 2 := by omega
    rw [hW]
    clear hW hys hcg hfg
    obtain ⟨yfn, yex, ybl, ywl, yat_, yq, yv2, yan, yorr, yco, yle, ymo, ynx, yol, ybs, yws, yos, yE, hybl, hywl, hyol, hpa, hdo⟩ := ends_in ys r (ln : Int) HTy.out HLy.out (by omega) (by omega) (by omega)
    have HPA := Lib.hid hpa
    have HDO := Lib.hid hdo
    clear hpa hdo
    go_wp2_with fail
    refine (HPA.out _ 0 c4 _ ⟨HT.out, hc, hc2⟩).mono ?_
    rintro e w9 ⟨BC, be, WC, we, OC, oe, rfl, hob, how, hoo, hb9⟩
    have hk9 : Below w9.heap.size w9 (w9.alloc (.cells #[.int .i64 yfn, .int .i64 yex, .slice BC ybl be, .slice WC ywl we, .int .i64 yat_, .int .i64 yq, .int .u16 yv2, .int .u16 yan, .int .u16 yorr, .int .i64 yco, .int .i64 yle, .bool ymo, .int .i64 ynx, .slice OC yol oe] 28)) := (Below.refl _ _).alloc (Nat.le_refl _) _
    have hb9a := hb9.trans (hk9.mono hb9.size)
    have h9 : WholeV (w9.alloc (.cells #[.int .i64 yfn, .int .i64 yex, .slice BC ybl be, .slice WC ywl we, .int .i64 yat_, .int .i64 yq, .int .u16 yv2, .int .u16 yan, .int .u16 yorr, .int .i64 yco, .int .i64 yle, .bool ymo, .int .i64 ynx, .slice OC yol oe] 28)) w9.heap.size 28 [.int .i64 yfn, .int .i64 yex, .slice BC ybl be, .slice WC ywl we, .int .i64 yat_, .int .i64 yq, .int .u16 yv2, .int .u16 yan, .int .u16 yorr, .int .i64 yco, .int .i64 yle, .bool ymo, .int .i64 ynx, .slice OC yol oe] := heap_alloc_new w9 _
    have H9 := Lib.hid h9
    have HB9 := Lib.hid (HBW.out.trans (hb9a.mono HBW.out.size))
    have HT9 := Lib.hid ((HT.out.below hb9a).more hb9a.size)
    have HA9 := Lib.hid (((own_row hob).bools.below hk9).more hk9.size)
    have HD9 := Lib.hid (((own_row how).ints.below hk9).more hk9.size)
    have HG9 := Lib.hid (ol_of_own (own2_keep hoo hk9))
    clear hob how hoo hb9 hk9 hb9a h9
    go_wp2_with fail
    refine (HDO.out _ c4 _ HT9.out hc).mono ?_
    rintro e w10 ⟨BD, bf, WD, wf, OD, of_, rfl, hob, how, hoo, hb10⟩
    have hk10 : Below w10.heap.size w10 (w10.alloc (.cells #[.int .i64 yfn, .int .i64 yex, .slice BD ybl bf, .slice WD ywl wf, .int .i64 yat_, .int .i64 yq, .int .u16 yv2, .int .u16 yan, .int .u16 yorr, .int .i64 yco, .int .i64 yle, .bool ymo, .int .i64 ynx, .slice OD yol of_] 28)) := (Below.refl _ _).alloc (Nat.le_refl _) _
    have hb10a := hb10.trans (hk10.mono hb10.size)
    have h10 := H9.out.below hb10 H9.out.lt
    have hz10 : w9.heap.size < w10.heap.size := h10.lt
    obtain ⟨hv0, hv1, hv2, hv3, hv4, hv5, hv6, hv7, hv8, hv9, hv10, hv11, hv12, hv13⟩ := cells14 h10
    have HB10 := Lib.hid (HB9.out.trans (hb10a.mono HB9.out.size))
    have HA10 := Lib.hid ((HA9.out.below hb10a).more hb10a.size)
    have HD10 := Lib.hid ((HD9.out.below hb10a).more hb10a.size)
    have HG10 := Lib.hid (HG9.out.below hb10a)
    have HE10 := Lib.hid (((own_row hob).bools.below hk10).more hk10.size)
    have HF10 := Lib.hid (((own_row how).ints.below hk10).more hk10.size)
    have HH10 := Lib.hid (ol_of_own (own2_keep hoo hk10))
    clear hob how hoo hb10 hk10 hb10a h10
    go_wp2_with fail
    refine (sametell_yes yfn yex yat_ yq yv2 yan yorr yco yle ymo ynx ybs yws yos ybl ywl yol BC WC OC BD WD OD be we oe bf wf of_ _ HA10.out HE10.out HD10.out HF10.out HG10.out HH10.out hybl hywl hyol).mono ?_
    rintro e w11 ⟨rfl, hb11⟩
    have HB11 := Lib.hid (HB10.out.trans (hb11.mono HB10.out.size))
    clear hb11
    go_wp2
    go_ret
    exact ⟨rfl, HB11.out⟩

theorem walk_out (k v a z m : Int) (WS LS : Option Addr) (wn wsc ln lc : Nat) (w : World) (h : wn < 1 ∨ 125 < wn ∨ ln < 1 ∨ 200 < ln) :
    Calls Try.prog 3 #[.int .i64 k, .int .i64 v, .slice WS wn wsc, .slice LS ln lc, .int .i64 a, .int .u8 z, .int .i64 m] w fun e w' => e = .returned (.bool true) ∧ Below w.heap.size w w' := by
  have h' : (wn : Int) < 1 ∨ (¬ (wn : Int) < 1 ∧ 125 < (wn : Int)) ∨ (¬ (wn : Int) < 1 ∧ ¬ 125 < (wn : Int) ∧ (ln : Int) < 1) ∨ (¬ (wn : Int) < 1 ∧ ¬ 125 < (wn : Int) ∧ ¬ (ln : Int) < 1 ∧ 200 < (ln : Int)) := by omega
  clear h
  rcases h' with h1 | ⟨h1, h2⟩ | ⟨h1, h2, h3⟩ | ⟨h1, h2, h3, h4⟩
  all_goals
    go_enter Try.func3, Try.ntmps3
    go_wp2_with (go_at_call 5; refine (awake_any _).mono ?_; rintro e w1 ⟨rfl, hb⟩; have HB := Lib.hid hb; clear hb)
    go_ret
    exact ⟨rfl, HB.out⟩

theorem walk (a0 a1 : Int) (a2 : Option Addr) (len2 cap2 : Nat) (z2 : List Int) (a3 : Option Addr) (len3 cap3 : Nat) (z3 : List Bool) (a4 a5 a6 : Int) (w : World) (w0 : (Lit.int .i64 a0).wf = true) (w1 : (Lit.int .i64 a1).wf = true) (w2 : IsRow .u16 w a2 len2 cap2 z2) (w3 : IsBools w a3 len3 cap3 z3) (w4 : (Lit.int .i64 a4).wf = true) (w5 : (Lit.int .u8 a5).wf = true) (w6 : (Lit.int .i64 a6).wf = true) :
    Calls Try.prog 3 #[.int .i64 a0, .int .i64 a1, .slice a2 len2 cap2, .slice a3 len3 cap3, .int .i64 a4, .int .u8 a5, .int .i64 a6] w fun e w' => e = .returned (.bool true) ∧ Below w.heap.size w w' := by
  by_cases h : len2 < 1 ∨ 125 < len2 ∨ len3 < 1 ∨ 200 < len3
  · exact walk_out _ _ _ _ _ _ _ _ _ _ _ _ h
  · have b0 := bounds_i64 w0
    have b1 := bounds_i64 w1
    have b4 := bounds_i64 w4
    have b5 := bounds_u8 w5
    have b6 := bounds_i64 w6
    exact back_any a0 a1 a4 a5 a6 a2 a3 len2 cap2 len3 cap3 _ _ w w2.row w3.row (fun x hx => bounds_u16 (w2.wf x hx)) (by omega) (by omega) b0.1 b0.2 b1.1 b1.2 b4.1 b4.2 b5.1 b5.2 b6.1 b6.2

/-! ### THE ROW's STEP: WRITTEN OUT: LEAVE IT -/
set_option maxRecDepth 100000 in
theorem lifted (os : Os) (started : os.Started) (H : Type) (enc : TypeId × Value → H) :
    ReturnsInHanded {} Try.checked os 3 .any (Rows.tellBackSpec.pre6 enc Try.prog Try.f3 Rows.tellBackRow.domain false) (Rows.tellBackSpec.post enc Try.prog Try.f3 false true false false) := by
  refine returnsInHanded_of_change (C := Try.checked) own started (by kernel_rfl) Try.func3
    (ChangeSpec.witness6 (enc := enc) (C := Try.checked) false ⟨#[], #[.int .i64 0, .int .i64 0, .slice none 0 0, .slice none 0 0, .int .i64 0, .int .u8 0, .int .i64 0], []⟩ 8 (by kernel_rfl) (by kernel_rfl) (by kernel_rfl) (by kernel_rfl)) ?_
  intro W base args ds gs before hval0 hW hcnd _
  have hval : ∀ (j : Nat) t v, Try.f3.params[j]? = some t → args[j]? = some v → Value.okWide Try.prog W .any base t v := hval0
  have hW' := hW
  obtain ⟨p, q, hA0, hV, rfl, hfz, hnd⟩ := hW
  have hA : DataW.TrodAll enc Try.prog W 0 (fun _ => true) true Try.f3.params.toList args.toList ds p := hA0
  rw [Try.params3] at hA hval
  obtain ⟨v0, vs0, d0, ds0, p0, q0, hargs, rfl, rfl, h0, r0⟩ := trodAll_cons hA
  obtain ⟨v1, vs1, d1, ds1, p1, q1, rfl, rfl, rfl, h1, r1⟩ := trodAll_cons r0
  obtain ⟨v2, vs2, d2, ds2, p2, q2, rfl, rfl, rfl, h2, r2⟩ := trodAll_cons r1
  obtain ⟨v3, vs3, d3, ds3, p3, q3, rfl, rfl, rfl, h3, r3⟩ := trodAll_cons r2
  obtain ⟨v4, vs4, d4, ds4, p4, q4, rfl, rfl, rfl, h4, r4⟩ := trodAll_cons r3
  obtain ⟨v5, vs5, d5, ds5, p5, q5, rfl, rfl, rfl, h5, r5⟩ := trodAll_cons r4
  obtain ⟨v6, vs6, d6, ds6, p6, q6, rfl, rfl, rfl, h6, r6⟩ := trodAll_cons r5
  obtain ⟨rfl, rfl, rfl⟩ := trodAll_nil r6
  obtain rfl : args = #[v0, v1, v2, v3, v4, v5, v6] := by cases args; simp_all
  obtain ⟨rfl, rfl⟩ := trodVars_none hV
  obtain ⟨a0, rfl, rfl, rfl, w0⟩ := open_int Try.underlying3 (hval 0 3 v0 rfl rfl) h0
  obtain ⟨a1, rfl, rfl, rfl, w1⟩ := open_int Try.underlying3 (hval 1 3 v1 rfl rfl) h1
  obtain ⟨a2, len2, cap2, rfl⟩ := okWide_slice Try.underlying22 (hval 2 22 v2 rfl rfl)
  have k2 := h2
  have lt2 : ∀ x ∈ p2, x.block < W.heap.size := by obtain ⟨m, hm⟩ := k2; exact DataW.trod_lt m _ _ _ hm
  obtain ⟨z2, w2⟩ : ∃ zs, IsRow .u16 W a2 len2 cap2 zs := by
    obtain ⟨fuel, hf⟩ := h2
    rcases open_ints Try.underlying22 Try.underlying25 (by kernel_rfl) hf with ⟨hcs, _⟩ | ⟨x, l, c, zs, hcs, _, hl, hm, hz, _, hcell, hwz⟩
    · simp [Value.cells] at hcs
      obtain ⟨rfl, rfl, rfl⟩ := hcs
      exact ⟨[], .inl ⟨rfl, rfl, rfl, rfl⟩⟩
    · simp [Value.cells] at hcs
      obtain ⟨rfl, rfl, rfl⟩ := hcs
      exact ⟨zs, .inr ⟨_, rfl, hl, hm, by simpa using hz, hcell, hwz⟩⟩
  obtain ⟨a3, len3, cap3, rfl⟩ := okWide_slice Try.underlying23 (hval 3 23 v3 rfl rfl)
  have k3 := h3
  have lt3 : ∀ x ∈ p3, x.block < W.heap.size := by obtain ⟨m, hm⟩ := k3; exact DataW.trod_lt m _ _ _ hm
  obtain ⟨z3, w3⟩ : ∃ bs, IsBools W a3 len3 cap3 bs := by
    obtain ⟨fuel, hf⟩ := h3
    rcases Go.Deep.open_bools Try.underlying23 Try.underlying4 (by kernel_rfl) hf with ⟨hcs, _⟩ | ⟨x, l, c, B, hcs, _, hl, hm, _, hcell⟩
    · simp [Value.cells] at hcs
      obtain ⟨rfl, rfl, rfl⟩ := hcs
      exact ⟨[], .inl ⟨rfl, rfl, rfl, rfl⟩⟩
    · simp [Value.cells] at hcs
      obtain ⟨rfl, rfl, rfl⟩ := hcs
      exact isBools_mk B hl hm hcell
  obtain ⟨a4, rfl, rfl, rfl, w4⟩ := open_int Try.underlying3 (hval 4 3 v4 rfl rfl) h4
  obtain ⟨a5, rfl, rfl, rfl, w5⟩ := open_int Try.underlying5 (hval 5 5 v5 rfl rfl) h5
  obtain ⟨a6, rfl, rfl, rfl, w6⟩ := open_int Try.underlying3 (hval 6 3 v6 rfl rfl) h6
  clear hA0 hval0
  refine (walk a0 a1 a2 len2 cap2 z2 a3 len3 cap3 z3 a4 a5 a6 W w0 w1 w2 w3 w4 w5 w6).mono fun e W' ⟨he, bel⟩ => ?_
  subst he
  exact ⟨_, rfl, _, _, _, [], _, [], hW', trodAll_mk1 (shut_bool Try.underlying4 _), (trodAll_cons_mk (shut_int Try.underlying3 w0) (trodAll_cons_mk (shut_int Try.underlying3 w1) (trodAll_cons_mk (Below.trod laidOut (by kernel_rfl) (of_decide_eq_true (by kernel_rfl)) k2 bel lt2) (trodAll_cons_mk (Below.trod laidOut (by kernel_rfl) (of_decide_eq_true (by kernel_rfl)) k3 bel lt3) (trodAll_cons_mk (shut_int Try.underlying3 w4) (trodAll_cons_mk (shut_int Try.underlying5 w5) (trodAll_cons_mk (shut_int Try.underlying3 w6) trodAll_mk0))))))), rfl, bel.frame _, fun h => by cases h⟩

theorem over : Rows.tellBackRow.holds Try.pinned (OpenSpec.ofChange Rows.tellBackSpec) :=
  OpenClaim.holds_of_wide 3 Try.f3 rfl rfl rfl rfl rfl rfl rfl ⟨rfl, rfl, rfl, rfl, rfl⟩ rfl rfl rfl rfl rfl (by kernel_rfl) Try.func3 (by kernel_rfl)
    (of_decide_eq_true (by kernel_rfl)) (by unfold Func.isWrapper; first | (rw [if_pos (by decide +kernel)]; kernel_rfl) | (rw [if_neg (by decide +kernel)]; exact ⟨rfl, rfl⟩))
    (fun os started H enc _ => lifted os started H enc)

/-- ████ THE STATEMENT ████ -/
theorem proved : Rows.TellBackSaid := over
#print axioms proved
end Go.Proofs.Ytielfekkonflfaa.tellBack

/- Proved: for every four numbers and a byte, busbarlaw5.AskBack returns true, and its arguments read as before. Conditions: none. -/
import Derived.Test.YtijfeffjjcbijaaJAskBack3
import Derived.Test.YtijfeffjjcbijaaJAskBack5
import Derived.Test.YtijfeffjjcbijaaPBytes
import Derived.Test.YtijfeffjjcbijaaJAskBack6
namespace Go.Proofs.Ytijfeffjjcbijaa.askBack
open Go.ChangeShapes Go.WideShapes Go.ChangeAt Go.RowKit
open Go.ChangeMaps (open_string shut_string)
set_option linter.unusedVariables false      -- a walk need not use every 'w<i>' (that an integer argument fits its kind)


theorem u8_both (x : Int) : 0 ≤ IntKind.u8.wrap x ∧ IntKind.u8.wrap x ≤ 255 := by
  simp [IntKind.wrap, IntKind.signed, IntKind.bits]
  omega

set_option maxHeartbeats 2000000 in
theorem back_any (k v a z m : Int) (w : World) (k0 : -9223372036854775808 ≤ k) (k1 : k ≤ 9223372036854775807) (v0 : -9223372036854775808 ≤ v) (v1 : v ≤ 9223372036854775807) (a0 : -9223372036854775808 ≤ a) (a1 : a ≤ 9223372036854775807) (z0 : 0 ≤ z) (z1 : z ≤ 255) (m0 : -9223372036854775808 ≤ m) (m1 : m ≤ 9223372036854775807) :
    Calls Try.prog 5 #[.int .i64 k, .int .i64 v, .int .i64 a, .int .u8 z, .int .i64 m] w fun e w' => e = .returned (.bool true) ∧ Below w.heap.size w w' := by
  go_enter Try.func5, Try.ntmps5
  go_wp2_with fail
  refine (awake_any _).mono ?_
  rintro e w1 ⟨rfl, hb1⟩
  have HB1 := Lib.hid hb1
  clear hb1
  go_wp2_with fail
  refine (lask_any k v _ k0 k1 v0 v1).mono ?_
  rintro e w2 ⟨fn, at_, n, y, an, orr, bl, wl, ra, rn, co, ob, BA, WA, bc, wc, bs, ws, rfl, hrt, hwd, hws, hob, how, hb2⟩
  have HB2 := Lib.hid (HB1.out.trans (hb2.mono HB1.out.size))
  have hbr := (own_row hob).bools
  have hwr := (own_row how).ints
  obtain rfl : bs.length = bl := hbr.1
  obtain rfl : ws.length = wl := hwr.1
  have s := right_small ⟨fn, at_, n, y, an, orr, bs, ws, ra, rn, co, ob⟩ hrt
  have s1 : bs.length ≤ 2000 := s.1
  have s2 : ws.length ≤ 2000 := s.2
  have hk2 : Below w2.heap.size w2 (w2.alloc (.cells #[.int .i64 fn, .int .i64 at_, .int .i64 n, .int .u16 y, .int .u16 an, .int .u16 orr, .slice BA bs.length bc, .slice WA ws.length wc, .int .i64 ra, .int .i64 rn, .int .i64 co, .int .i64 ob] 26)) := (Below.refl _ _).alloc (Nat.le_refl _) _
  have h2 : WholeV (w2.alloc (.cells #[.int .i64 fn, .int .i64 at_, .int .i64 n, .int .u16 y, .int .u16 an, .int .u16 orr, .slice BA bs.length bc, .slice WA ws.length wc, .int .i64 ra, .int .i64 rn, .int .i64 co, .int .i64 ob] 26)) w2.heap.size 26 [.int .i64 fn, .int .i64 at_, .int .i64 n, .int .u16 y, .int .u16 an, .int .u16 orr, .slice BA bs.length bc, .slice WA ws.length wc, .int .i64 ra, .int .i64 rn, .int .i64 co, .int .i64 ob] := heap_alloc_new w2 _
  have HA2 := Lib.hid h2
  have HB2a := Lib.hid (HB2.out.trans (hk2.mono HB2.out.size))
  have HBR := Lib.hid ((hbr.below hk2).more hk2.size)
  have HWR := Lib.hid ((hwr.below hk2).more hk2.size)
  have HRt := Lib.hid hrt
  have HWd := Lib.hid hwd
  have HWs := Lib.hid hws
  clear hb2 hob how hbr hwr hrt hwd hws s hk2 h2
  go_wp2_with fail
  refine (pbytes_yes fn at_ n y an orr bs ws ra rn co ob BA WA bs.length ws.length bc wc _ HWd.out HRt.out HBR.out HWR.out HWs.out).mono ?_
  rintro e w3 ⟨C, cap, rfl, ho, hb3⟩
  have HL := Lib.hid (enc_length at_ n y an orr bs ws ra rn co ob fn HRt.out)
  have HX := Lib.hid (enc_bytes at_ n y an orr bs ws ra rn co ob fn HRt.out HWd.out HWs.out)
  have HEnc := Lib.hid (parse_enc fn at_ n y an orr bs ws ra rn co ob HRt.out HWd.out HWs.out)
  have HB3 := Lib.hid (HB2a.out.trans (hb3.mono HB2a.out.size))
  have HA3 := Lib.hid (HA2.out.below hb3 HA2.out.lt)
  have HBR3 := Lib.hid ((HBR.out.below hb3).more hb3.size)
  have HWR3 := Lib.hid ((HWR.out.below hb3).more hb3.size)
  clear hb3
  generalize hE : enc fn at_ n y an orr bs ws ra rn co ob = E at *
  clear hE
  obtain ⟨L, hLe⟩ : ∃ L, E.length = L := ⟨_, rfl⟩
  rw [hLe] at ho
  have l0 : 4 ≤ L := by rw [← hLe]; exact HL.out.1
  have l1 : L ≤ 252 := by rw [← hLe]; exact HL.out.2.1
  have hcap := own_cap ho
  have HP := Lib.hid (HEnc.out L hLe)
  have HR3 := Lib.hid (own_row ho).ints
  have HLe := Lib.hid hLe
  rw [hLe]
  clear ho hLe HL HEnc HA2 HBR HWR
  go_wp2_with fail
  refine (parse_lit E L cap _ _ fn at_ n y an orr bs ws ra rn co ob 0 HP.out HR3.out HX.out (by omega) (by omega)).mono ?_
  rintro e w4 ⟨BB, WB, bd, wd, rfl, hob, how, hb4⟩
  have hk4 : Below w4.heap.size w4 (w4.alloc (.cells #[.int .i64 fn, .int .i64 at_, .int .i64 n, .int .u16 y, .int .u16 an, .int .u16 orr, .slice BB bs.length bd, .slice WB ws.length wd, .int .i64 ra, .int .i64 rn, .int .i64 co, .int .i64 ob] 26)) := (Below.refl _ _).alloc (Nat.le_refl _) _
  have hb4a := hb4.trans (hk4.mono hb4.size)
  have h4 : WholeV (w4.alloc (.cells #[.int .i64 fn, .int .i64 at_, .int .i64 n, .int .u16 y, .int .u16 an, .int .u16 orr, .slice BB bs.length bd, .slice WB ws.length wd, .int .i64 ra, .int .i64 rn, .int .i64 co, .int .i64 ob] 26)) w4.heap.size 26 [.int .i64 fn, .int .i64 at_, .int .i64 n, .int .u16 y, .int .u16 an, .int .u16 orr, .slice BB bs.length bd, .slice WB ws.length wd, .int .i64 ra, .int .i64 rn, .int .i64 co, .int .i64 ob] := heap_alloc_new w4 _
  have a4 := HA3.out.below hb4a HA3.out.lt
  have HB4 := Lib.hid (HB3.out.trans (hb4a.mono HB3.out.size))
  have HR4 := Lib.hid ((HR3.out.below hb4a).more hb4a.size)
  have HBR4 := Lib.hid ((HBR3.out.below hb4a).more hb4a.size)
  have HWR4 := Lib.hid ((HWR3.out.below hb4a).more hb4a.size)
  have HE4 := Lib.hid (((own_row hob).bools.below hk4).more hk4.size)
  have HF4 := Lib.hid (((own_row how).ints.below hk4).more hk4.size)
  obtain ⟨hq0, hq1, hq2, hq3, hq4, hq5, hq6, hq7, hq8, hq9, hq10, hq11⟩ := cells12 a4
  have hz4 : w2.heap.size < w4.heap.size := Nat.lt_of_lt_of_le HA3.out.lt hb4.size
  have H4 := Lib.hid h4
  have HA4 := Lib.hid a4
  clear hob how hb4 hk4 hb4a h4 a4 HR3 HBR3 HWR3 HA3
  go_wp2_with fail
  refine (pright_yes fn at_ n y an orr bs.length ws.length ra rn co ob BA WA bc wc _ HWd.out HRt.out).mono ?_
  rintro e w5 ⟨rfl, hb5⟩
  have a5 := HA4.out.below hb5 HA4.out.lt
  have d5 := H4.out.below hb5 H4.out.lt
  have hz5 : w4.heap.size < w5.heap.size := d5.lt
  obtain ⟨hs0, hs1, hs2, hs3, hs4, hs5, hs6, hs7, hs8, hs9, hs10, hs11⟩ := cells12 a5
  obtain ⟨ht0, ht1, ht2, ht3, ht4, ht5, ht6, ht7, ht8, ht9, ht10, ht11⟩ := cells12 d5
  have HB5 := Lib.hid (HB4.out.trans (hb5.mono HB4.out.size))
  have HR5 := Lib.hid ((HR4.out.below hb5).more hb5.size)
  have HBR5 := Lib.hid ((HBR4.out.below hb5).more hb5.size)
  have HWR5 := Lib.hid ((HWR4.out.below hb5).more hb5.size)
  have HE5 := Lib.hid ((HE4.out.below hb5).more hb5.size)
  have HF5 := Lib.hid ((HF4.out.below hb5).more hb5.size)
  clear hb5 a5 d5 hq0 hq1 hq2 hq3 hq4 hq5 hq6 hq7 hq8 hq9 hq10 hq11 HR4 HBR4 HWR4 HE4 HF4 H4 HA4
  go_wp2_with fail
  refine (sameask_yes fn at_ n y an orr bs.length ws.length ra rn co ob BA WA BB WB bc wc bd wd bs ws _ HBR5.out HE5.out HWR5.out HF5.out (by omega) (by omega)).mono ?_
  rintro e w6 ⟨rfl, hb6⟩
  have HB6 := Lib.hid (HB5.out.trans (hb6.mono HB5.out.size))
  have HR6 := Lib.hid ((HR5.out.below hb6).more hb6.size)
  have HO0 := Lib.hid (own_none w6 w.heap.size 5)
  clear hb6 hs0 hs1 hs2 hs3 hs4 hs5 hs6 hs7 hs8 hs9 hs10 hs11 ht0 ht1 ht2 ht3 ht4 ht5 ht6 ht7 ht8 ht9 ht10 ht11 HR5 HBR5 HWR5 HE5 HF5
  obtain ⟨j, hj⟩ : ∃ j : Nat, a % (L : Int) = (j : Int) := ⟨(a % (L : Int)).toNat, by have := Int.emod_nonneg a (show (L : Int) ≠ 0 by omega); omega⟩
  have hjL : j < L := by have := Int.emod_lt_of_pos a (show (0 : Int) < (L : Int) by omega); omega
  obtain ⟨r, hr⟩ : ∃ r : Nat, m % ((L : Int) + 4) = (r : Int) := ⟨(m % ((L : Int) + 4)).toNat, by have := Int.emod_nonneg m (show (L : Int) + 4 ≠ 0 by omega); omega⟩
  have hrL : r < L + 4 := by have := Int.emod_lt_of_pos m (show (0 : Int) < (L : Int) + 4 by omega); omega
  have HJ := Lib.hid hj
  have HRr := Lib.hid hr
  have hj0 : (j : Int) < (L : Int) := by omega
  have hjn : (0 : Int) ≤ (j : Int) := by omega
  clear hj hr
  rcases Nat.lt_or_ge L r with hlr | hlr
  · obtain ⟨t, rfl⟩ : ∃ t, r = L + t := ⟨r - L, by omega⟩
    have hrl : ¬ (((L + t : Nat) : Int) ≤ (L : Int)) := by omega
    have hrc : (0 : Int) ≤ ((L + t : Nat) : Int) := by omega
    go_wp2_with (first
      | (at_builtin
         refine wpList_append_row _ (o := ⟨some 54, _, _, _, _, _⟩) rfl (.const (.slice none 0 0)) (.tmp 53) 33 rfl w.heap.size 5 (.int .u8 0) 1 Try.underlying33 info5 rfl (.slice none 0 0) 0 [] rfl HO0.out _ _ L cap _ rfl HR6.out.v (one_cells _ _) (by omega) (by omega) HB6.out.size ?_
         intro v2 w7 hown hg2 hat
         rw [Nat.zero_add, List.nil_append] at hown
         have hc4' := hown
         obtain ⟨g, c4, rfl, hgb, hrow, hfr, hset⟩ := own_open hown (by omega)
         have hc4 := own_cap hc4'
         have HB7 := Lib.hid (below_append HB6.out HO0.out hg2 HB6.out.size)
         obtain ⟨b', off', e', _, hcell⟩ := hrow.2 (by omega)
         injection e' with e'
         injection e' with e1 e2
         subst e1 e2
         have hcg := hcell j (by omega)
         obtain ⟨u, hu⟩ : ∃ u, E[j]? = some u := ⟨_, List.getElem?_eq_getElem (by rw [HLe.out]; omega)⟩
         have HU := Lib.hid hu
         rw [Nat.zero_add, List.getElem?_map, hu, Option.map_some] at hcg
         have hfg := hfr j
         obtain ⟨q, hq⟩ : ∃ q, IntKind.u8.wrap (u + z) = q := ⟨_, rfl⟩
         have HQ := Lib.hid hq
         have HS := Lib.hid (hset j (.int .u8 q))
         clear hown hc4' hg2 hat hrow hfr hset hcell hu)
      | (go_at_call 19; (with_reducible refine (within_lit a (L : Int) (j : Int) _ HJ.out (by omega) (by omega) (by omega) (by omega)).mono ?_); rintro e w' ⟨rfl, rfl⟩)
      | (go_at_call 19; (with_reducible refine (within_lit m ((L : Int) + 4) ((L + t : Nat) : Int) _ HRr.out (by omega) (by omega) (by omega) (by omega)).mono ?_); rintro e w' ⟨rfl, rfl⟩)
      | (at_builtin
         refine wpList_append_made _ (o := ⟨some 82, _, _, _, _, _⟩) rfl (.tmp 77) (.tmp 81) 33 3 rfl w.heap.size 5 (.int .u8 0) 1 Try.underlying33 Try.underlying3 info5 rfl rfl (.slice (some ⟨g, 0, none⟩) L c4) L _ rfl HS.out (by omega) t (by show Value.int IntKind.i64 ((L : Int) + (t : Int) - (L : Int)) = _; rw [show (L : Int) + (t : Int) - (L : Int) = (t : Int) by omega]) (by omega) (by omega) (by omega) (HB7.out.setCell (p := ⟨g, j, none⟩) hgb _).size ?_
         intro v3 w8 hown8 hg8 hat8
         obtain ⟨A8, c8, rfl⟩ := own_slice hown8
         have HBW := Lib.hid (below_append (HB7.out.setCell (p := ⟨g, j, none⟩) hgb _) HS.out hg8 (HB7.out.setCell (p := ⟨g, j, none⟩) hgb _).size)
         have HO8 := Lib.hid hown8
         clear hown8 hg8 hat8))
    have hqb : 0 ≤ q ∧ q ≤ 255 := by rw [← HQ.out]; exact u8_both _
    obtain ⟨ys, hys⟩ : ∃ ys, E.set j q ++ List.replicate t 0 = ys := ⟨_, rfl⟩
    have hmap : (E.map (Value.int .u8)).set j (.int .u8 q) ++ List.replicate t (.int .u8 0) = ys.map (Value.int .u8) := by rw [← hys, List.map_append, List.map_set, List.map_replicate]
    have HTy : Hid (Bytes8 ys) := by
      rw [← hys]
      intro y' hy
      rcases List.mem_append.1 hy with hy | hy
      · rcases List.mem_or_eq_of_mem_set hy with h | h
        · exact HX.out y' h
        · omega
      · rw [List.eq_of_mem_replicate hy]
        omega
    have HT : Hid (Row .u8 w8 w8.heap.size A8 (L + t) ys) := by
      have h := HO8.out
      rw [hmap] at h
      exact (own_row h).ints
    have hc8 := own_cap HO8.out
    clear hys hmap hcg hfg
    obtain ⟨⟨⟨f, p1, p2, p3, p4, p5, cs, ds, p8, p9, p10, p11⟩, x⟩, hP⟩ : ∃ o, parseOf ys (L + t) = o := ⟨_, rfl⟩
    have hsm := parse_small ys (L + t)
    rw [hP] at hsm
    have s3 : cs.length ≤ 2000 := hsm.1
    have s4 : ds.length ≤ 2000 := hsm.2
    have HPP := Lib.hid hP
    clear hP hsm
    refine (parse_lit ys (L + t) c8 _ _ f p1 p2 p3 p4 p5 cs ds p8 p9 p10 p11 x HPP.out HT.out HTy.out (by omega) (by omega)).mono ?_
    rintro e w9 ⟨BC, WC, be, we, rfl, hob, how, hb9⟩
    have hk9 : Below w9.heap.size w9 (w9.alloc (.cells #[.int .i64 f, .int .i64 p1, .int .i64 p2, .int .u16 p3, .int .u16 p4, .int .u16 p5, .slice BC cs.length be, .slice WC ds.length we, .int .i64 p8, .int .i64 p9, .int .i64 p10, .int .i64 p11] 26)) := (Below.refl _ _).alloc (Nat.le_refl _) _
    have hb9a := hb9.trans (hk9.mono hb9.size)
    have h9 : WholeV (w9.alloc (.cells #[.int .i64 f, .int .i64 p1, .int .i64 p2, .int .u16 p3, .int .u16 p4, .int .u16 p5, .slice BC cs.length be, .slice WC ds.length we, .int .i64 p8, .int .i64 p9, .int .i64 p10, .int .i64 p11] 26)) w9.heap.size 26 [.int .i64 f, .int .i64 p1, .int .i64 p2, .int .u16 p3, .int .u16 p4, .int .u16 p5, .slice BC cs.length be, .slice WC ds.length we, .int .i64 p8, .int .i64 p9, .int .i64 p10, .int .i64 p11] := heap_alloc_new w9 _
    have H9 := Lib.hid h9
    have HB9 := Lib.hid (HBW.out.trans (hb9a.mono HBW.out.size))
    have HX9 := Lib.hid ((HT.out.below hb9a).more hb9a.size)
    have HA9 := Lib.hid (((own_row hob).bools.below hk9).more hk9.size)
    have HD9 := Lib.hid (((own_row how).ints.below hk9).more hk9.size)
    clear hob how hb9 hk9 hb9a h9
    go_wp2_with fail
    refine (rparse_lit ys (L + t) c8 _ _ f p1 p2 p3 p4 p5 cs ds p8 p9 p10 p11 x HPP.out HX9.out HTy.out (by omega) (by omega)).mono ?_
    rintro e wA ⟨BD, WD, bg, wg, rfl, hob, how, hbA⟩
    have hkA : Below wA.heap.size wA (wA.alloc (.cells #[.int .i64 f, .int .i64 p1, .int .i64 p2, .int .u16 p3, .int .u16 p4, .int .u16 p5, .slice BD cs.length bg, .slice WD ds.length wg, .int .i64 p8, .int .i64 p9, .int .i64 p10, .int .i64 p11] 26)) := (Below.refl _ _).alloc (Nat.le_refl _) _
    have hbAa := hbA.trans (hkA.mono hbA.size)
    have hA := H9.out.below hbA H9.out.lt
    have hzA : w9.heap.size < wA.heap.size := hA.lt
    obtain ⟨hq0, hq1, hq2, hq3, hq4, hq5, hq6, hq7, hq8, hq9, hq10, hq11⟩ := cells12 hA
    have HBA := Lib.hid (HB9.out.trans (hbAa.mono HB9.out.size))
    have HAA := Lib.hid ((HA9.out.below hbAa).more hbAa.size)
    have HDA := Lib.hid ((HD9.out.below hbAa).more hbAa.size)
    have HEA := Lib.hid (((own_row hob).bools.below hkA).more hkA.size)
    have HFA := Lib.hid (((own_row how).ints.below hkA).more hkA.size)
    clear hob how hbA hkA hbAa hA
    go_wp2_with fail
    refine (sameask_yes f p1 p2 p3 p4 p5 cs.length ds.length p8 p9 p10 p11 BC WC BD WD be we bg wg cs ds _ HAA.out HEA.out HDA.out HFA.out (by omega) (by omega)).mono ?_
    rintro e wB ⟨rfl, hbB⟩
    have HBB := Lib.hid (HBA.out.trans (hbB.mono HBA.out.size))
    clear hbB
    go_wp2
    go_ret
    exact ⟨rfl, HBB.out⟩
  · have hrl : (r : Int) ≤ (L : Int) := by omega
    have hrc : (0 : Int) ≤ (r : Int) := by omega
    go_wp2_with (first
      | (at_builtin
         refine wpList_append_row _ (o := ⟨some 54, _, _, _, _, _⟩) rfl (.const (.slice none 0 0)) (.tmp 53) 33 rfl w.heap.size 5 (.int .u8 0) 1 Try.underlying33 info5 rfl (.slice none 0 0) 0 [] rfl HO0.out _ _ L cap _ rfl HR6.out.v (one_cells _ _) (by omega) (by omega) HB6.out.size ?_
         intro v2 w7 hown hg2 hat
         rw [Nat.zero_add, List.nil_append] at hown
         have hc4' := hown
         obtain ⟨g, c4, rfl, hgb, hrow, hfr, hset⟩ := own_open hown (by omega)
         have hc4 := own_cap hc4'
         have HB7 := Lib.hid (below_append HB6.out HO0.out hg2 HB6.out.size)
         obtain ⟨b', off', e', _, hcell⟩ := hrow.2 (by omega)
         injection e' with e'
         injection e' with e1 e2
         subst e1 e2
         have hcg := hcell j (by omega)
         obtain ⟨u, hu⟩ : ∃ u, E[j]? = some u := ⟨_, List.getElem?_eq_getElem (by rw [HLe.out]; omega)⟩
         have HU := Lib.hid hu
         rw [Nat.zero_add, List.getElem?_map, hu, Option.map_some] at hcg
         have hfg := hfr j
         obtain ⟨q, hq⟩ : ∃ q, IntKind.u8.wrap (u + z) = q := ⟨_, rfl⟩
         have HQ := Lib.hid hq
         have HS := Lib.hid (hset j (.int .u8 q))
         clear hown hc4' hg2 hat hrow hfr hset hcell hu)
      | (go_at_call 19; (with_reducible refine (within_lit a (L : Int) (j : Int) _ HJ.out (by omega) (by omega) (by omega) (by omega)).mono ?_); rintro e w' ⟨rfl, rfl⟩)
      | (go_at_call 19; (with_reducible refine (within_lit m ((L : Int) + 4) (r : Int) _ HRr.out (by omega) (by omega) (by omega) (by omega)).mono ?_); rintro e w' ⟨rfl, rfl⟩))
    obtain ⟨W, hW⟩ : ∃ W, w7.setCell ⟨g, j, none⟩ (.int .u8 q) = W := ⟨_, rfl⟩
    obtain ⟨ys, hys⟩ : ∃ ys, E.set j q = ys := ⟨_, rfl⟩
    have HO : Hid (W.ownsRow w.heap.size 5 1 (.slice (some ⟨g, 0, none⟩) L c4) L (ys.map (Value.int .u8))) := by
      have h := HS.out
      rw [← List.map_set, hys, hW] at h
      exact h
    have HBW : Hid (Below w.heap.size w W) := by rw [← hW]; exact HB7.out.setCell (p := ⟨g, j, none⟩) hgb _
    have hqb : 0 ≤ q ∧ q ≤ 255 := by rw [← HQ.out]; exact u8_both _
    have HY : Hid (Bytes8 ys) := by
      rw [← hys]
      intro y' hy
      rcases List.mem_or_eq_of_mem_set hy with h | h
      · exact HX.out y' h
      · omega
    rw [hW]
    clear hW hys hcg hfg
    have HT := Lib.hid (take_row (own_row HO.out).ints r (by omega))
    have HTy := Lib.hid (HY.out.take r)
    obtain ⟨⟨⟨f, p1, p2, p3, p4, p5, cs, ds, p8, p9, p10, p11⟩, x⟩, hP⟩ : ∃ o, parseOf (ys.take r) r = o := ⟨_, rfl⟩
    have hsm := parse_small (ys.take r) r
    rw [hP] at hsm
    have s3 : cs.length ≤ 2000 := hsm.1
    have s4 : ds.length ≤ 2000 := hsm.2
    have HPP := Lib.hid hP
    clear hP hsm
    refine (parse_lit (ys.take r) r c4 _ _ f p1 p2 p3 p4 p5 cs ds p8 p9 p10 p11 x HPP.out HT.out HTy.out (by omega) (by omega)).mono ?_
    rintro e w9 ⟨BC, WC, be, we, rfl, hob, how, hb9⟩
    have hk9 : Below w9.heap.size w9 (w9.alloc (.cells #[.int .i64 f, .int .i64 p1, .int .i64 p2, .int .u16 p3, .int .u16 p4, .int .u16 p5, .slice BC cs.length be, .slice WC ds.length we, .int .i64 p8, .int .i64 p9, .int .i64 p10, .int .i64 p11] 26)) := (Below.refl _ _).alloc (Nat.le_refl _) _
    have hb9a := hb9.trans (hk9.mono hb9.size)
    have h9 : WholeV (w9.alloc (.cells #[.int .i64 f, .int .i64 p1, .int .i64 p2, .int .u16 p3, .int .u16 p4, .int .u16 p5, .slice BC cs.length be, .slice WC ds.length we, .int .i64 p8, .int .i64 p9, .int .i64 p10, .int .i64 p11] 26)) w9.heap.size 26 [.int .i64 f, .int .i64 p1, .int .i64 p2, .int .u16 p3, .int .u16 p4, .int .u16 p5, .slice BC cs.length be, .slice WC ds.length we, .int .i64 p8, .int .i64 p9, .int .i64 p10, .int .i64 p11] := heap_alloc_new w9 _
    have H9 := Lib.hid h9
    have HB9 := Lib.hid (HBW.out.trans (hb9a.mono HBW.out.size))
    have HX9 := Lib.hid ((HT.out.below hb9a).more hb9a.size)
    have HA9 := Lib.hid (((own_row hob).bools.below hk9).more hk9.size)
    have HD9 := Lib.hid (((own_row how).ints.below hk9).more hk9.size)
    clear hob how hb9 hk9 hb9a h9
    go_wp2_with fail
    refine (rparse_lit (ys.take r) r c4 _ _ f p1 p2 p3 p4 p5 cs ds p8 p9 p10 p11 x HPP.out HX9.out HTy.out (by omega) (by omega)).mono ?_
    rintro e wA ⟨BD, WD, bg, wg, rfl, hob, how, hbA⟩
    have hkA : Below wA.heap.size wA (wA.alloc (.cells #[.int .i64 f, .int .i64 p1, .int .i64 p2, .int .u16 p3, .int .u16 p4, .int .u16 p5, .slice BD cs.length bg, .slice WD ds.length wg, .int .i64 p8, .int .i64 p9, .int .i64 p10, .int .i64 p11] 26)) := (Below.refl _ _).alloc (Nat.le_refl _) _
    have hbAa := hbA.trans (hkA.mono hbA.size)
    have hA := H9.out.below hbA H9.out.lt
    have hzA : w9.heap.size < wA.heap.size := hA.lt
    obtain ⟨hq0, hq1, hq2, hq3, hq4, hq5, hq6, hq7, hq8, hq9, hq10, hq11⟩ := cells12 hA
    have HBA := Lib.hid (HB9.out.trans (hbAa.mono HB9.out.size))
    have HAA := Lib.hid ((HA9.out.below hbAa).more hbAa.size)
    have HDA := Lib.hid ((HD9.out.below hbAa).more hbAa.size)
    have HEA := Lib.hid (((own_row hob).bools.below hkA).more hkA.size)
    have HFA := Lib.hid (((own_row how).ints.below hkA).more hkA.size)
    clear hob how hbA hkA hbAa hA
    go_wp2_with fail
    refine (sameask_yes f p1 p2 p3 p4 p5 cs.length ds.length p8 p9 p10 p11 BC WC BD WD be we bg wg cs ds _ HAA.out HEA.out HDA.out HFA.out (by omega) (by omega)).mono ?_
    rintro e wB ⟨rfl, hbB⟩
    have HBB := Lib.hid (HBA.out.trans (hbB.mono HBA.out.size))
    clear hbB
    go_wp2
    go_ret
    exact ⟨rfl, HBB.out⟩

theorem walk (a0 a1 a2 a3 a4 : Int) (w0 : (Lit.int .i64 a0).wf = true) (w1 : (Lit.int .i64 a1).wf = true) (w2 : (Lit.int .i64 a2).wf = true) (w3 : (Lit.int .u8 a3).wf = true) (w4 : (Lit.int .i64 a4).wf = true) (w : World) :
    Calls Try.prog 5 #[.int .i64 a0, .int .i64 a1, .int .i64 a2, .int .u8 a3, .int .i64 a4] w fun e w' => e = .returned (.bool true) ∧ Below w.heap.size w w' := by
  obtain ⟨h0, h1⟩ := bounds_i64 w0
  obtain ⟨h2, h3⟩ := bounds_i64 w1
  obtain ⟨h4, h5⟩ := bounds_i64 w2
  obtain ⟨h6, h7⟩ := bounds_u8 w3
  obtain ⟨h8, h9⟩ := bounds_i64 w4
  exact back_any a0 a1 a2 a3 a4 w h0 h1 h2 h3 h4 h5 h6 h7 h8 h9

/-! ### THE ROW's STEP: WRITTEN OUT: LEAVE IT -/
set_option maxRecDepth 100000 in
theorem lifted (os : Os) (started : os.Started) (H : Type) (enc : TypeId × Value → H) :
    ReturnsInHanded {} Try.checked os 5 .any (Rows.askBackSpec.pre6 enc Try.prog Try.f5 Rows.askBackRow.domain false) (Rows.askBackSpec.post enc Try.prog Try.f5 false true false false) := by
  refine returnsInHanded_of_change (C := Try.checked) own started (by kernel_rfl) Try.func5
    (ChangeSpec.witness6 (enc := enc) (C := Try.checked) false ⟨#[], #[.int .i64 0, .int .i64 0, .int .i64 0, .int .u8 0, .int .i64 0], []⟩ 8 (by kernel_rfl) (by kernel_rfl) (by kernel_rfl) (by kernel_rfl)) ?_
  intro W base args ds gs before hval0 hW hcnd _
  have hval : ∀ (j : Nat) t v, Try.f5.params[j]? = some t → args[j]? = some v → Value.okWide Try.prog W .any base t v := hval0
  have hW' := hW
  obtain ⟨p, q, hA0, hV, rfl, hfz, hnd⟩ := hW
  have hA : DataW.TrodAll enc Try.prog W 0 (fun _ => true) true Try.f5.params.toList args.toList ds p := hA0
  rw [Try.params5] at hA hval
  obtain ⟨v0, vs0, d0, ds0, p0, q0, hargs, rfl, rfl, h0, r0⟩ := trodAll_cons hA
  obtain ⟨v1, vs1, d1, ds1, p1, q1, rfl, rfl, rfl, h1, r1⟩ := trodAll_cons r0
  obtain ⟨v2, vs2, d2, ds2, p2, q2, rfl, rfl, rfl, h2, r2⟩ := trodAll_cons r1
  obtain ⟨v3, vs3, d3, ds3, p3, q3, rfl, rfl, rfl, h3, r3⟩ := trodAll_cons r2
  obtain ⟨v4, vs4, d4, ds4, p4, q4, rfl, rfl, rfl, h4, r4⟩ := trodAll_cons r3
  obtain ⟨rfl, rfl, rfl⟩ := trodAll_nil r4
  obtain rfl : args = #[v0, v1, v2, v3, v4] := by cases args; simp_all
  obtain ⟨rfl, rfl⟩ := trodVars_none hV
  obtain ⟨a0, rfl, rfl, rfl, w0⟩ := open_int Try.underlying3 (hval 0 3 v0 rfl rfl) h0
  obtain ⟨a1, rfl, rfl, rfl, w1⟩ := open_int Try.underlying3 (hval 1 3 v1 rfl rfl) h1
  obtain ⟨a2, rfl, rfl, rfl, w2⟩ := open_int Try.underlying3 (hval 2 3 v2 rfl rfl) h2
  obtain ⟨a3, rfl, rfl, rfl, w3⟩ := open_int Try.underlying5 (hval 3 5 v3 rfl rfl) h3
  obtain ⟨a4, rfl, rfl, rfl, w4⟩ := open_int Try.underlying3 (hval 4 3 v4 rfl rfl) h4
  clear hA0 hval0
  simp only [List.append_nil] at hW'
  refine (walk a0 a1 a2 a3 a4 w0 w1 w2 w3 w4 W).mono fun e W' ⟨he, bel⟩ => ?_
  subst he
  exact ⟨_, rfl, _, _, _, [], _, [], hW', trodAll_mk1 (shut_bool Try.underlying4 _), (trodAll_cons_mk (shut_int Try.underlying3 w0) (trodAll_cons_mk (shut_int Try.underlying3 w1) (trodAll_cons_mk (shut_int Try.underlying3 w2) (trodAll_cons_mk (shut_int Try.underlying5 w3) (trodAll_cons_mk (shut_int Try.underlying3 w4) trodAll_mk0))))), rfl, bel.frame _, fun h => by cases h⟩

theorem over : Rows.askBackRow.holds Try.pinned (OpenSpec.ofChange Rows.askBackSpec) :=
  OpenClaim.holds_of_wide 5 Try.f5 rfl rfl rfl rfl rfl rfl rfl ⟨rfl, rfl, rfl, rfl, rfl⟩ rfl rfl rfl rfl rfl (by kernel_rfl) Try.func5 (by kernel_rfl)
    (of_decide_eq_true (by kernel_rfl)) (by unfold Func.isWrapper; first | (rw [if_pos (by decide +kernel)]; kernel_rfl) | (rw [if_neg (by decide +kernel)]; exact ⟨rfl, rfl⟩))
    (fun os started H enc _ => lifted os started H enc)

/-- ████ THE STATEMENT ████ -/
theorem proved : Rows.AskBackSaid :=
  over
#print axioms proved
end Go.Proofs.Ytijfeffjjcbijaa.askBack

/- Proved: for every slice of bytes, every int and every bool, busbarlaw5.AskReads returns true, and its argument reads as before. Conditions: none. -/
import Derived.Test.YtebpilfogdenjaaJAskReads1
import Derived.Test.YtebpilfogdenjaaLAsk
namespace Go.Proofs.Ytebpilfogdenjaa.askReads
open Go.ChangeShapes Go.WideShapes Go.ChangeAt Go.RowKit
open Go.ChangeMaps (open_string shut_string)
set_option linter.unusedVariables false


theorem walk_long (D : Option Addr) (n c : Nat) (fn : Int) (a : Bool) (w : World) (hn : 300 < n) :
    Calls Try.prog 3 #[.slice D n c, .int .i64 fn, .bool a] w fun e w' => e = .returned (.bool true) ∧ Below w.heap.size w w' := by
  have h1 : (300 : Int) < (n : Int) := by omega
  go_enter Try.func3, Try.ntmps3
  go_wp2_with (go_at_call 8; refine (awake_any _).mono ?_; rintro e w1 ⟨rfl, hb⟩; have HB := Lib.hid hb; clear hb)
  go_ret
  exact ⟨rfl, HB.out⟩

set_option maxHeartbeats 2000000 in
theorem walk_plain (D : Option Addr) (n c : Nat) (zs : List Int) (fn : Int) (w : World) (hr : Row .u8 w w.heap.size D n zs) (hx : Bytes8 zs) (hn : n ≤ 300) (f0 : -9223372036854775808 ≤ fn) (f1 : fn ≤ 9223372036854775807) :
    Calls Try.prog 3 #[.slice D n c, .int .i64 fn, .bool false] w fun e w' => e = .returned (.bool true) ∧ Below w.heap.size w w' := by
  have hgt : ¬ (300 : Int) < (n : Int) := by omega
  have hl0 := hr.1
  have HR := Lib.hid hr
  have HY := Lib.hid hx
  have HLn := Lib.hid hl0
  clear hr hx hl0
  obtain ⟨⟨⟨f, p1, p2, p3, p4, p5, bs, ws, p8, p9, p10, p11⟩, x⟩, hP⟩ : ∃ o, parseOf zs n = o := ⟨_, rfl⟩
  have hsm := parse_small zs n
  rw [hP] at hsm
  have s1 : bs.length ≤ 2000 := hsm.1
  have s2 : ws.length ≤ 2000 := hsm.2
  have HP := Lib.hid hP
  clear hP hsm
  go_enter Try.func3, Try.ntmps3
  go_wp2_with fail
  refine (awake_any _).mono ?_
  rintro e w1 ⟨rfl, hb1⟩
  have HB1 := Lib.hid hb1
  have HO0 := Lib.hid (own_none w1 w.heap.size 5)
  have HR1 := Lib.hid ((HR.out.below hb1).more hb1.size)
  clear hb1
  go_wp2_with (first
    | (at_builtin
       refine wpList_append_row _ (o := ⟨some 22, _, _, _, _, _⟩) rfl (.const (.slice none 0 0)) (.tmp 21) 22 rfl w.heap.size 5 (.int .u8 0) 1 Try.underlying22 info5 rfl (.slice none 0 0) 0 [] rfl HO0.out _ _ n c _ rfl HR1.out.v (one_cells _ _) (by omega) (by omega) HB1.out.size ?_
       intro v2 w2 hown hg2 hat
       rw [Nat.zero_add, List.nil_append] at hown
       obtain ⟨B, c4, rfl⟩ := own_slice hown
       have HBW := Lib.hid (below_append HB1.out HO0.out hg2 HB1.out.size)
       have HO := Lib.hid hown
       have hc4 := own_cap5 hown
       clear hown hg2 hat))
  go_wp2_with fail
  refine (lent_any B n c4 zs _ (own_row HO.out).ints (by omega)).mono ?_
  rintro e w3 ⟨rfl, hw3, hb3⟩
  have HW3 := Lib.hid hw3
  have HX3 := Lib.hid (((own_row HO.out).ints.below hb3).more hb3.size)
  have HB3 := Lib.hid (HBW.out.trans (hb3.mono HBW.out.size))
  have hln := HLn.out
  have HM3 := Lib.hid (lent_front hw3 hln)
  clear hw3 hb3 hln
  go_wp2_with fail
  refine (parse_lit zs n (n + 3) _ _ f p1 p2 p3 p4 p5 bs ws p8 p9 p10 p11 x HP.out HM3.out HY.out (by omega) (by omega)).mono ?_
  rintro e w4 ⟨BA, WA, bc, wc, rfl, hob, how, hb4⟩
  have hk4 : Below w4.heap.size w4 (w4.alloc (.cells #[.int .i64 f, .int .i64 p1, .int .i64 p2, .int .u16 p3, .int .u16 p4, .int .u16 p5, .slice BA bs.length bc, .slice WA ws.length wc, .int .i64 p8, .int .i64 p9, .int .i64 p10, .int .i64 p11] 30)) := (Below.refl _ _).alloc (Nat.le_refl _) _
  have hb4a := hb4.trans (hk4.mono hb4.size)
  have h4 : WholeV (w4.alloc (.cells #[.int .i64 f, .int .i64 p1, .int .i64 p2, .int .u16 p3, .int .u16 p4, .int .u16 p5, .slice BA bs.length bc, .slice WA ws.length wc, .int .i64 p8, .int .i64 p9, .int .i64 p10, .int .i64 p11] 30)) w4.heap.size 30 [.int .i64 f, .int .i64 p1, .int .i64 p2, .int .u16 p3, .int .u16 p4, .int .u16 p5, .slice BA bs.length bc, .slice WA ws.length wc, .int .i64 p8, .int .i64 p9, .int .i64 p10, .int .i64 p11] := heap_alloc_new w4 _
  have H4 := Lib.hid h4
  have HB4 := Lib.hid (HB3.out.trans (hb4a.mono HB3.out.size))
  have HX4 := Lib.hid ((HX3.out.below hb4a).more hb4a.size)
  have HW4 := Lib.hid (HW3.out.below hb4a HW3.out.lt)
  have HA4 := Lib.hid (((own_row hob).bools.below hk4).more hk4.size)
  have HD4 := Lib.hid (((own_row how).ints.below hk4).more hk4.size)
  clear hob how hb4 hk4 hb4a h4
  go_wp2_with fail
  refine (rparse_lit zs n c4 _ _ f p1 p2 p3 p4 p5 bs ws p8 p9 p10 p11 x HP.out HX4.out HY.out (by omega) hc4).mono ?_
  rintro e w5 ⟨BB, WB, bd, wd, rfl, hob, how, hb5⟩
  have hk5 : Below w5.heap.size w5 (w5.alloc (.cells #[.int .i64 f, .int .i64 p1, .int .i64 p2, .int .u16 p3, .int .u16 p4, .int .u16 p5, .slice BB bs.length bd, .slice WB ws.length wd, .int .i64 p8, .int .i64 p9, .int .i64 p10, .int .i64 p11] 30)) := (Below.refl _ _).alloc (Nat.le_refl _) _
  have hb5a := hb5.trans (hk5.mono hb5.size)
  have h5 := H4.out.below hb5 H4.out.lt
  have hz5 : w4.heap.size < w5.heap.size := h5.lt
  obtain ⟨hq0, hq1, hq2, hq3, hq4, hq5, hq6, hq7, hq8, hq9, hq10, hq11⟩ := cells12 h5
  have HB5 := Lib.hid (HB4.out.trans (hb5a.mono HB4.out.size))
  have HX5 := Lib.hid ((HX4.out.below hb5a).more hb5a.size)
  have HW5 := Lib.hid (HW4.out.below hb5a HW4.out.lt)
  have HA5 := Lib.hid ((HA4.out.below hb5a).more hb5a.size)
  have HD5 := Lib.hid ((HD4.out.below hb5a).more hb5a.size)
  have HE5 := Lib.hid (((own_row hob).bools.below hk5).more hk5.size)
  have HF5 := Lib.hid (((own_row how).ints.below hk5).more hk5.size)
  clear hob how hb5 hk5 hb5a h5
  go_wp2_with fail
  refine (sameask_yes f p1 p2 p3 p4 p5 bs.length ws.length p8 p9 p10 p11 BA WA BB WB bc wc bd wd bs ws _ HA5.out HE5.out HD5.out HF5.out (by omega) (by omega)).mono ?_
  rintro e w6 ⟨rfl, hb6⟩
  have HB6 := Lib.hid (HB5.out.trans (hb6.mono HB5.out.size))
  have HX6 := Lib.hid ((HX5.out.below hb6).more hb6.size)
  have HW6 := Lib.hid (HW5.out.below hb6 HW5.out.lt)
  clear hb6
  go_wp2_with fail
  refine (stays_any B n c4 _ zs _ HX6.out HW6.out (by omega)).mono ?_
  rintro e w7 ⟨rfl, d7, rfl⟩
  go_wp2
  go_ret
  exact ⟨rfl, below_drewN HB6.out _⟩

set_option maxHeartbeats 2000000 in
theorem walk_empty (D : Option Addr) (n c : Nat) (zs : List Int) (fn : Int) (w : World) (hr : Row .u8 w w.heap.size D n zs) (hx : Bytes8 zs) (hn : n ≤ 300) (f0 : -9223372036854775808 ≤ fn) (f1 : fn ≤ 9223372036854775807) (hn0 : n = 0) :
    Calls Try.prog 3 #[.slice D n c, .int .i64 fn, .bool true] w fun e w' => e = .returned (.bool true) ∧ Below w.heap.size w w' := by
  have hgt : ¬ (300 : Int) < (n : Int) := by omega
  have hl0 := hr.1
  have HR := Lib.hid hr
  have HY := Lib.hid hx
  have HLn := Lib.hid hl0
  clear hr hx hl0
  have hz1 : ¬ (0 : Int) < (n : Int) := by omega
  clear hn0
  obtain ⟨⟨⟨f, p1, p2, p3, p4, p5, bs, ws, p8, p9, p10, p11⟩, x⟩, hP⟩ : ∃ o, parseOf zs n = o := ⟨_, rfl⟩
  have hsm := parse_small zs n
  rw [hP] at hsm
  have s1 : bs.length ≤ 2000 := hsm.1
  have s2 : ws.length ≤ 2000 := hsm.2
  have HP := Lib.hid hP
  clear hP hsm
  go_enter Try.func3, Try.ntmps3
  go_wp2_with fail
  refine (awake_any _).mono ?_
  rintro e w1 ⟨rfl, hb1⟩
  have HB1 := Lib.hid hb1
  have HO0 := Lib.hid (own_none w1 w.heap.size 5)
  have HR1 := Lib.hid ((HR.out.below hb1).more hb1.size)
  clear hb1
  go_wp2_with (first
    | (at_builtin
       refine wpList_append_row _ (o := ⟨some 22, _, _, _, _, _⟩) rfl (.const (.slice none 0 0)) (.tmp 21) 22 rfl w.heap.size 5 (.int .u8 0) 1 Try.underlying22 info5 rfl (.slice none 0 0) 0 [] rfl HO0.out _ _ n c _ rfl HR1.out.v (one_cells _ _) (by omega) (by omega) HB1.out.size ?_
       intro v2 w2 hown hg2 hat
       rw [Nat.zero_add, List.nil_append] at hown
       obtain ⟨B, c4, rfl⟩ := own_slice hown
       have HBW := Lib.hid (below_append HB1.out HO0.out hg2 HB1.out.size)
       have HO := Lib.hid hown
       have hc4 := own_cap5 hown
       clear hown hg2 hat))
  go_wp2_with fail
  refine (lent_any B n c4 zs _ (own_row HO.out).ints (by omega)).mono ?_
  rintro e w3 ⟨rfl, hw3, hb3⟩
  have HW3 := Lib.hid hw3
  have HX3 := Lib.hid (((own_row HO.out).ints.below hb3).more hb3.size)
  have HB3 := Lib.hid (HBW.out.trans (hb3.mono HBW.out.size))
  have hln := HLn.out
  have HM3 := Lib.hid (lent_front hw3 hln)
  clear hw3 hb3 hln
  go_wp2_with fail
  refine (parse_lit zs n (n + 3) _ _ f p1 p2 p3 p4 p5 bs ws p8 p9 p10 p11 x HP.out HM3.out HY.out (by omega) (by omega)).mono ?_
  rintro e w4 ⟨BA, WA, bc, wc, rfl, hob, how, hb4⟩
  have hk4 : Below w4.heap.size w4 (w4.alloc (.cells #[.int .i64 f, .int .i64 p1, .int .i64 p2, .int .u16 p3, .int .u16 p4, .int .u16 p5, .slice BA bs.length bc, .slice WA ws.length wc, .int .i64 p8, .int .i64 p9, .int .i64 p10, .int .i64 p11] 30)) := (Below.refl _ _).alloc (Nat.le_refl _) _
  have hb4a := hb4.trans (hk4.mono hb4.size)
  have h4 : WholeV (w4.alloc (.cells #[.int .i64 f, .int .i64 p1, .int .i64 p2, .int .u16 p3, .int .u16 p4, .int .u16 p5, .slice BA bs.length bc, .slice WA ws.length wc, .int .i64 p8, .int .i64 p9, .int .i64 p10, .int .i64 p11] 30)) w4.heap.size 30 [.int .i64 f, .int .i64 p1, .int .i64 p2, .int .u16 p3, .int .u16 p4, .int .u16 p5, .slice BA bs.length bc, .slice WA ws.length wc, .int .i64 p8, .int .i64 p9, .int .i64 p10, .int .i64 p11] := heap_alloc_new w4 _
  have H4 := Lib.hid h4
  have HB4 := Lib.hid (HB3.out.trans (hb4a.mono HB3.out.size))
  have HX4 := Lib.hid ((HX3.out.below hb4a).more hb4a.size)
  have HW4 := Lib.hid (HW3.out.below hb4a HW3.out.lt)
  have HA4 := Lib.hid (((own_row hob).bools.below hk4).more hk4.size)
  have HD4 := Lib.hid (((own_row how).ints.below hk4).more hk4.size)
  clear hob how hb4 hk4 hb4a h4
  go_wp2_with fail
  refine (rparse_lit zs n c4 _ _ f p1 p2 p3 p4 p5 bs ws p8 p9 p10 p11 x HP.out HX4.out HY.out (by omega) hc4).mono ?_
  rintro e w5 ⟨BB, WB, bd, wd, rfl, hob, how, hb5⟩
  have hk5 : Below w5.heap.size w5 (w5.alloc (.cells #[.int .i64 f, .int .i64 p1, .int .i64 p2, .int .u16 p3, .int .u16 p4, .int .u16 p5, .slice BB bs.length bd, .slice WB ws.length wd, .int .i64 p8, .int .i64 p9, .int .i64 p10, .int .i64 p11] 30)) := (Below.refl _ _).alloc (Nat.le_refl _) _
  have hb5a := hb5.trans (hk5.mono hb5.size)
  have h5 := H4.out.below hb5 H4.out.lt
  have hz5 : w4.heap.size < w5.heap.size := h5.lt
  obtain ⟨hq0, hq1, hq2, hq3, hq4, hq5, hq6, hq7, hq8, hq9, hq10, hq11⟩ := cells12 h5
  have HB5 := Lib.hid (HB4.out.trans (hb5a.mono HB4.out.size))
  have HX5 := Lib.hid ((HX4.out.below hb5a).more hb5a.size)
  have HW5 := Lib.hid (HW4.out.below hb5a HW4.out.lt)
  have HA5 := Lib.hid ((HA4.out.below hb5a).more hb5a.size)
  have HD5 := Lib.hid ((HD4.out.below hb5a).more hb5a.size)
  have HE5 := Lib.hid (((own_row hob).bools.below hk5).more hk5.size)
  have HF5 := Lib.hid (((own_row how).ints.below hk5).more hk5.size)
  clear hob how hb5 hk5 hb5a h5
  go_wp2_with fail
  refine (sameask_yes f p1 p2 p3 p4 p5 bs.length ws.length p8 p9 p10 p11 BA WA BB WB bc wc bd wd bs ws _ HA5.out HE5.out HD5.out HF5.out (by omega) (by omega)).mono ?_
  rintro e w6 ⟨rfl, hb6⟩
  have HB6 := Lib.hid (HB5.out.trans (hb6.mono HB5.out.size))
  have HX6 := Lib.hid ((HX5.out.below hb6).more hb6.size)
  have HW6 := Lib.hid (HW5.out.below hb6 HW5.out.lt)
  clear hb6
  go_wp2_with fail
  refine (stays_any B n c4 _ zs _ HX6.out HW6.out (by omega)).mono ?_
  rintro e w7 ⟨rfl, d7, rfl⟩
  go_wp2
  go_ret
  exact ⟨rfl, below_drewN HB6.out _⟩

set_option maxHeartbeats 2000000 in
theorem walk_ahead (D : Option Addr) (n c : Nat) (zs : List Int) (fn : Int) (w : World) (hr : Row .u8 w w.heap.size D n zs) (hx : Bytes8 zs) (hn : n ≤ 300) (f0 : -9223372036854775808 ≤ fn) (f1 : fn ≤ 9223372036854775807) (hn0 : 1 ≤ n) :
    Calls Try.prog 3 #[.slice D n c, .int .i64 fn, .bool true] w fun e w' => e = .returned (.bool true) ∧ Below w.heap.size w w' := by
  have hgt : ¬ (300 : Int) < (n : Int) := by omega
  have hl0 := hr.1
  have HR := Lib.hid hr
  obtain ⟨z, hz⟩ : ∃ z, fn % 46 = z := ⟨_, rfl⟩
  have z0 : 0 ≤ z := by omega
  have z1 : z < 46 := by omega
  have wz : IntKind.u8.wrap z = z := IntWalk.u8_in _ (by omega)
  obtain ⟨ys, hys⟩ : ∃ ys, zs.set 0 z = ys := ⟨_, rfl⟩
  have HY : Hid (Bytes8 ys) := by
    rw [← hys]
    intro y hy
    rcases List.mem_or_eq_of_mem_set hy with h | h
    · exact hx y h
    · omega
  have HLn : Hid (ys.length = n) := by rw [← hys, List.length_set]; exact hl0
  have HYs := Lib.hid hys
  have HZ := Lib.hid hz
  have HL0 := Lib.hid hl0
  have hn0' : (0 : Int) < (n : Int) := by omega
  clear hr hx hl0 hys hz
  obtain ⟨⟨⟨f, p1, p2, p3, p4, p5, bs, ws, p8, p9, p10, p11⟩, x⟩, hP⟩ : ∃ o, parseOf ys n = o := ⟨_, rfl⟩
  have hsm := parse_small ys n
  rw [hP] at hsm
  have s1 : bs.length ≤ 2000 := hsm.1
  have s2 : ws.length ≤ 2000 := hsm.2
  have HP := Lib.hid hP
  clear hP hsm
  go_enter Try.func3, Try.ntmps3
  go_wp2_with fail
  refine (awake_any _).mono ?_
  rintro e w1 ⟨rfl, hb1⟩
  have HB1 := Lib.hid hb1
  have HO0 := Lib.hid (own_none w1 w.heap.size 5)
  have HR1 := Lib.hid ((HR.out.below hb1).more hb1.size)
  clear hb1
  go_wp2_with (first
    | (at_builtin
       refine wpList_append_row _ (o := ⟨some 22, _, _, _, _, _⟩) rfl (.const (.slice none 0 0)) (.tmp 21) 22 rfl w.heap.size 5 (.int .u8 0) 1 Try.underlying22 info5 rfl (.slice none 0 0) 0 [] rfl HO0.out _ _ n c _ rfl HR1.out.v (one_cells _ _) (by omega) (by omega) HB1.out.size ?_
       intro v2 w2 hown hg2 hat
       rw [Nat.zero_add, List.nil_append] at hown
       have hc4' := hown
       obtain ⟨g, c4, rfl, hgb, hrow, hfr, hset⟩ := own_open hown (by omega)
       have hc4 := own_cap5 hc4'
       have HBW2 := Lib.hid (below_append HB1.out HO0.out hg2 HB1.out.size)
       obtain ⟨b', off', e', _, hcell⟩ := hrow.2 (by omega)
       injection e' with e'
       injection e' with e1 e2
       subst e1 e2
       have hcg := hcell 0 (by omega)
       rw [List.getElem?_map, List.getElem?_eq_getElem (by rw [HL0.out]; omega), Option.map_some] at hcg
       have hfg := hfr 0
       have HS := Lib.hid (hset 0 (.int .u8 z))
       clear hown hc4' hg2 hat hrow hfr hset hcell)
    | (go_at_call 9; (with_reducible refine (within_lit fn 46 z _ HZ.out f0 f1 (by omega) (by omega)).mono ?_); rintro e w' ⟨rfl, rfl⟩))
  obtain ⟨W, hW⟩ : ∃ W, w2.setCell ⟨g, 0, none⟩ (.int .u8 z) = W := ⟨_, rfl⟩
  have HO : Hid (W.ownsRow w.heap.size 5 1 (.slice (some ⟨g, 0, none⟩) n c4) n (ys.map (Value.int .u8))) := by
    have h := HS.out
    rw [← List.map_set, HYs.out, hW] at h
    exact h
  have HBW : Hid (Below w.heap.size w W) := by rw [← hW]; exact HBW2.out.setCell (p := ⟨g, 0, none⟩) hgb _
  rw [hW]
  clear hW hcg hfg
  go_wp2_with fail
  refine (lent_any _ n c4 ys _ (own_row HO.out).ints (by omega)).mono ?_
  rintro e w3 ⟨rfl, hw3, hb3⟩
  have HW3 := Lib.hid hw3
  have HX3 := Lib.hid (((own_row HO.out).ints.below hb3).more hb3.size)
  have HB3 := Lib.hid (HBW.out.trans (hb3.mono HBW.out.size))
  have hln := HLn.out
  have HM3 := Lib.hid (lent_front hw3 hln)
  clear hw3 hb3 hln
  go_wp2_with fail
  refine (parse_lit ys n (n + 3) _ _ f p1 p2 p3 p4 p5 bs ws p8 p9 p10 p11 x HP.out HM3.out HY.out (by omega) (by omega)).mono ?_
  rintro e w4 ⟨BA, WA, bc, wc, rfl, hob, how, hb4⟩
  have hk4 : Below w4.heap.size w4 (w4.alloc (.cells #[.int .i64 f, .int .i64 p1, .int .i64 p2, .int .u16 p3, .int .u16 p4, .int .u16 p5, .slice BA bs.length bc, .slice WA ws.length wc, .int .i64 p8, .int .i64 p9, .int .i64 p10, .int .i64 p11] 30)) := (Below.refl _ _).alloc (Nat.le_refl _) _
  have hb4a := hb4.trans (hk4.mono hb4.size)
  have h4 : WholeV (w4.alloc (.cells #[.int .i64 f, .int .i64 p1, .int .i64 p2, .int .u16 p3, .int .u16 p4, .int .u16 p5, .slice BA bs.length bc, .slice WA ws.length wc, .int .i64 p8, .int .i64 p9, .int .i64 p10, .int .i64 p11] 30)) w4.heap.size 30 [.int .i64 f, .int .i64 p1, .int .i64 p2, .int .u16 p3, .int .u16 p4, .int .u16 p5, .slice BA bs.length bc, .slice WA ws.length wc, .int .i64 p8, .int .i64 p9, .int .i64 p10, .int .i64 p11] := heap_alloc_new w4 _
  have H4 := Lib.hid h4
  have HB4 := Lib.hid (HB3.out.trans (hb4a.mono HB3.out.size))
  have HX4 := Lib.hid ((HX3.out.below hb4a).more hb4a.size)
  have HW4 := Lib.hid (HW3.out.below hb4a HW3.out.lt)
  have HA4 := Lib.hid (((own_row hob).bools.below hk4).more hk4.size)
  have HD4 := Lib.hid (((own_row how).ints.below hk4).more hk4.size)
  clear hob how hb4 hk4 hb4a h4
  go_wp2_with fail
  refine (rparse_lit ys n c4 _ _ f p1 p2 p3 p4 p5 bs ws p8 p9 p10 p11 x HP.out HX4.out HY.out (by omega) hc4).mono ?_
  rintro e w5 ⟨BB, WB, bd, wd, rfl, hob, how, hb5⟩
  have hk5 : Below w5.heap.size w5 (w5.alloc (.cells #[.int .i64 f, .int .i64 p1, .int .i64 p2, .int .u16 p3, .int .u16 p4, .int .u16 p5, .slice BB bs.length bd, .slice WB ws.length wd, .int .i64 p8, .int .i64 p9, .int .i64 p10, .int .i64 p11] 30)) := (Below.refl _ _).alloc (Nat.le_refl _) _
  have hb5a := hb5.trans (hk5.mono hb5.size)
  have h5 := H4.out.below hb5 H4.out.lt
  have hz5 : w4.heap.size < w5.heap.size := h5.lt
  obtain ⟨hq0, hq1, hq2, hq3, hq4, hq5, hq6, hq7, hq8, hq9, hq10, hq11⟩ := cells12 h5
  have HB5 := Lib.hid (HB4.out.trans (hb5a.mono HB4.out.size))
  have HX5 := Lib.hid ((HX4.out.below hb5a).more hb5a.size)
  have HW5 := Lib.hid (HW4.out.below hb5a HW4.out.lt)
  have HA5 := Lib.hid ((HA4.out.below hb5a).more hb5a.size)
  have HD5 := Lib.hid ((HD4.out.below hb5a).more hb5a.size)
  have HE5 := Lib.hid (((own_row hob).bools.below hk5).more hk5.size)
  have HF5 := Lib.hid (((own_row how).ints.below hk5).more hk5.size)
  clear hob how hb5 hk5 hb5a h5
  go_wp2_with fail
  refine (sameask_yes f p1 p2 p3 p4 p5 bs.length ws.length p8 p9 p10 p11 BA WA BB WB bc wc bd wd bs ws _ HA5.out HE5.out HD5.out HF5.out (by omega) (by omega)).mono ?_
  rintro e w6 ⟨rfl, hb6⟩
  have HB6 := Lib.hid (HB5.out.trans (hb6.mono HB5.out.size))
  have HX6 := Lib.hid ((HX5.out.below hb6).more hb6.size)
  have HW6 := Lib.hid (HW5.out.below hb6 HW5.out.lt)
  clear hb6
  go_wp2_with fail
  refine (stays_any _ n c4 _ ys _ HX6.out HW6.out (by omega)).mono ?_
  rintro e w7 ⟨rfl, d7, rfl⟩
  go_wp2
  go_ret
  exact ⟨rfl, below_drewN HB6.out _⟩

theorem walk (a0 : Option Addr) (len0 cap0 : Nat) (z0 : List Int) (a1 : Int) (a2 : Bool) (w : World) (w0 : IsRow .u8 w a0 len0 cap0 z0) (w1 : (Lit.int .i64 a1).wf = true) :
    Calls Try.prog 3 #[.slice a0 len0 cap0, .int .i64 a1, .bool a2] w fun e w' => e = .returned (.bool true) ∧ Below w.heap.size w w' := by
  have b1 := bounds_i64 w1
  rcases Nat.lt_or_ge 300 len0 with h | h
  · exact walk_long a0 len0 cap0 a1 a2 w h
  · cases a2
    · exact walk_plain a0 len0 cap0 _ a1 w w0.row w0.bytes h (by omega) (by omega)
    · rcases Nat.eq_zero_or_pos len0 with h0 | h0
      · exact walk_empty a0 len0 cap0 _ a1 w w0.row w0.bytes h (by omega) (by omega) h0
      · exact walk_ahead a0 len0 cap0 _ a1 w w0.row w0.bytes h (by omega) (by omega) h0

/-! ### THE ROW's STEP: WRITTEN OUT: LEAVE IT -/
set_option maxRecDepth 100000 in
theorem lifted (os : Os) (started : os.Started) (H : Type) (enc : TypeId × Value → H) :
    ReturnsInHanded {} Try.checked os 3 .any (Rows.askReadsSpec.pre6 enc Try.prog Try.f3 Rows.askReadsRow.domain false) (Rows.askReadsSpec.post enc Try.prog Try.f3 false true false false) := by
  refine returnsInHanded_of_change (C := Try.checked) own started (by kernel_rfl) Try.func3
    (ChangeSpec.witness6 (enc := enc) (C := Try.checked) false ⟨#[], #[.slice none 0 0, .int .i64 0, .bool false], []⟩ 8 (by kernel_rfl) (by kernel_rfl) (by kernel_rfl) (by kernel_rfl)) ?_
  intro W base args ds gs before hval0 hW hcnd _
  have hval : ∀ (j : Nat) t v, Try.f3.params[j]? = some t → args[j]? = some v → Value.okWide Try.prog W .any base t v := hval0
  have hW' := hW
  obtain ⟨p, q, hA0, hV, rfl, hfz, hnd⟩ := hW
  have hA : DataW.TrodAll enc Try.prog W 0 (fun _ => true) true Try.f3.params.toList args.toList ds p := hA0
  rw [Try.params3] at hA hval
  obtain ⟨v0, vs0, d0, ds0, p0, q0, hargs, rfl, rfl, h0, r0⟩ := trodAll_cons hA
  obtain ⟨v1, vs1, d1, ds1, p1, q1, rfl, rfl, rfl, h1, r1⟩ := trodAll_cons r0
  obtain ⟨v2, vs2, d2, ds2, p2, q2, rfl, rfl, rfl, h2, r2⟩ := trodAll_cons r1
  obtain ⟨rfl, rfl, rfl⟩ := trodAll_nil r2
  obtain rfl : args = #[v0, v1, v2] := by cases args; simp_all
  obtain ⟨rfl, rfl⟩ := trodVars_none hV
  obtain ⟨a0, len0, cap0, rfl⟩ := okWide_slice Try.underlying22 (hval 0 22 v0 rfl rfl)
  have k0 := h0
  have lt0 : ∀ x ∈ p0, x.block < W.heap.size := by obtain ⟨m, hm⟩ := k0; exact DataW.trod_lt m _ _ _ hm
  obtain ⟨z0, w0⟩ : ∃ zs, IsRow .u8 W a0 len0 cap0 zs := by
    obtain ⟨fuel, hf⟩ := h0
    rcases open_ints Try.underlying22 Try.underlying5 (by kernel_rfl) hf with ⟨hcs, _⟩ | ⟨x, l, c, zs, hcs, _, hl, hm, hz, _, hcell, hwz⟩
    · simp [Value.cells] at hcs
      obtain ⟨rfl, rfl, rfl⟩ := hcs
      exact ⟨[], .inl ⟨rfl, rfl, rfl, rfl⟩⟩
    · simp [Value.cells] at hcs
      obtain ⟨rfl, rfl, rfl⟩ := hcs
      exact ⟨zs, .inr ⟨_, rfl, hl, hm, by simpa using hz, hcell, hwz⟩⟩
  obtain ⟨a1, rfl, rfl, rfl, w1⟩ := open_int Try.underlying3 (hval 1 3 v1 rfl rfl) h1
  obtain ⟨a2, rfl, rfl, rfl⟩ := open_bool Try.underlying4 (hval 2 4 v2 rfl rfl) h2
  clear hA0 hval0
  refine (walk a0 len0 cap0 z0 a1 a2 W w0 w1).mono fun e W' ⟨he, bel⟩ => ?_
  subst he
  exact ⟨_, rfl, _, _, _, [], _, [], hW', trodAll_mk1 (shut_bool Try.underlying4 _), (trodAll_cons_mk (Below.trod laidOut (by kernel_rfl) (of_decide_eq_true (by kernel_rfl)) k0 bel lt0) (trodAll_cons_mk (shut_int Try.underlying3 w1) (trodAll_cons_mk (shut_bool Try.underlying4 _) trodAll_mk0))), rfl, bel.frame _, fun h => by cases h⟩

theorem over : Rows.askReadsRow.holds Try.pinned (OpenSpec.ofChange Rows.askReadsSpec) :=
  OpenClaim.holds_of_wide 3 Try.f3 rfl rfl rfl rfl rfl rfl rfl ⟨rfl, rfl, rfl, rfl, rfl⟩ rfl rfl rfl rfl rfl (by kernel_rfl) Try.func3 (by kernel_rfl)
    (of_decide_eq_true (by kernel_rfl)) (by unfold Func.isWrapper; first | (rw [if_pos (by decide +kernel)]; kernel_rfl) | (rw [if_neg (by decide +kernel)]; exact ⟨rfl, rfl⟩))
    (fun os started H enc _ => lifted os started H enc)

/-- ████ THE STATEMENT ████ -/
theorem proved : Rows.AskReadsSaid := over
#print axioms proved
end Go.Proofs.Ytebpilfogdenjaa.askReads

/- Proved: for every slice of bytes, every two ints and every bool, busbarlaw6.TellReads returns true, and its argument reads as before. Conditions: none. -/
import Derived.Test.YtokljdkbheogoaaJTellReads4
import Derived.Test.YtokljdkbheogoaaJTellReads5
import Derived.Test.YtokljdkbheogoaaWithin
import Derived.Test.YtokljdkbheogoaaJTellReads11
namespace Go.Proofs.Ytokljdkbheogoaa.tellReads
open Go.ChangeShapes Go.WideShapes Go.ChangeAt Go.RowKit
open Go.ChangeMaps (open_string shut_string)
set_option linter.unusedVariables false


theorem own_cap6 {w : World} {base : Nat} {e : TypeId} {A : Option Addr} {n c : Nat} {xs : List Value} (h : w.ownsRow base e 1 (.slice A n c) n xs) : n ≤ c := by
  rcases h.2 with ⟨e, h0⟩ | ⟨g, cap, cur, e, _, _, hnc, _⟩
  · omega
  · injection e with _ _ e
    omega
theorem own_setI {w : World} {base : Nat} {e : TypeId} {g n c : Nat} {xs : List Value} (h : w.ownsRow base e 1 (.slice (some ⟨g, 0, none⟩) n c) n xs) (hn : 0 < n) (i : Nat) (u : Value) : (w.setCell ⟨g, i, none⟩ u).ownsRow base e 1 (.slice (some ⟨g, 0, none⟩) n c) n (xs.set i u) := by
  obtain ⟨g', c', hv, _, _, _, hs⟩ := own_open h hn
  injection hv with e1 e2 e3
  injection e1 with e1
  injection e1 with e1
  subst e1 e3
  exact hs i u
theorem _root_.Go.Proofs.Ytokljdkbheogoaa.OL.keep5 {w W : World} {A : Option Addr} {n : Nat} {os : List Ob} (h : OL w w.heap.size A n os) (hb : Below w.heap.size w W) : OL W W.heap.size A n os := h.below hb

theorem walk_long (D : Option Addr) (n c : Nat) (m fv : Int) (a : Bool) (w : World) (hn : 300 < n) :
    Calls Try.prog 3 #[.slice D n c, .int .i64 m, .int .i64 fv, .bool a] w fun e w' => e = .returned (.bool true) ∧ Below w.heap.size w w' := by
  have h1 : (300 : Int) < (n : Int) := by omega
  go_enter Try.func3, Try.ntmps3
  go_wp2_with (go_at_call 9; refine (awake_any _).mono ?_; rintro e w1 ⟨rfl, hb⟩; have HB := Lib.hid hb; clear hb)
  go_ret
  exact ⟨rfl, HB.out⟩

set_option maxRecDepth 100000 in
set_option maxHeartbeats 4000000 in
theorem walk_plain (D : Option Addr) (n c : Nat) (zs : List Int) (m fv : Int) (w : World) (hr : Row .u8 w w.heap.size D n zs) (hx : Bytes8 zs) (hn : n ≤ 300) (m0 : -9223372036854775808 ≤ m) (m1 : m ≤ 9223372036854775807) (f0 : -9223372036854775808 ≤ fv) (f1 : fv ≤ 9223372036854775807) :
    Calls Try.prog 3 #[.slice D n c, .int .i64 m, .int .i64 fv, .bool false] w fun e w' => e = .returned (.bool true) ∧ Below w.heap.size w w' := by
  have hgt : ¬ (300 : Int) < (n : Int) := by omega
  have hl0 := hr.1
  have HR := Lib.hid hr
  obtain ⟨fn, ex, bl, wl, at_, q, v, an, orr, co, le, mo, nx, ol, bs, ws, os, E, hbl, hwl, hol, hpa, hdo⟩ := ends_any zs n m hx hl0 hn m0 m1
  have HPA := Lib.hid hpa
  have HDO := Lib.hid hdo
  clear hpa hdo
  clear hr hx hl0
  go_enter Try.func3, Try.ntmps3
  go_wp2_with fail
  refine (awake_any _).mono ?_
  rintro e w1 ⟨rfl, hb1⟩
  have HB1 := Lib.hid hb1
  have HO0 := Lib.hid (own_none w1 w.heap.size 5)
  have HR1 := Lib.hid ((HR.out.below hb1).more hb1.size)
  clear hb1
  go_wp2_with (first
    | (at_builtin
       refine wpList_append_row _ (o := ⟨some 24, _, _, _, _, _⟩) rfl (.const (.slice none 0 0)) (.tmp 23) 22 rfl w.heap.size 5 (.int .u8 0) 1 Try.underlying22 info5 rfl (.slice none 0 0) 0 [] rfl HO0.out _ _ n c _ rfl HR1.out.v (one_cells _ _) (by omega) (by omega) HB1.out.size ?_
       intro v2 w2 hown hg2 hat
       rw [Nat.zero_add, List.nil_append] at hown
       obtain ⟨B, c4, rfl⟩ := own_slice hown
       have HBX := Lib.hid (below_append HB1.out HO0.out hg2 HB1.out.size)
       have HOX := Lib.hid (own_row hown).ints
       have hc4 := own_cap6 hown
       clear hown hg2 hat))
  go_wp2_with fail
  refine (lent_all B n c4 zs _ HOX.out (by omega)).mono ?_
  rintro e w3 ⟨rfl, hra, hrm, hw3, hb3, hlt3⟩
  have HX3 := Lib.hid hra
  have HM3 := Lib.hid hrm
  have HW3 := Lib.hid hw3
  have HB3 := Lib.hid (HBX.out.trans (hb3.mono HBX.out.size))
  clear hra hrm hw3 hb3 hlt3
  go_wp2_with fail
  refine (HPA.out _ 0 (n + 3) _ HM3.out (by omega)).mono ?_
  rintro e w4 ⟨BA, bc, WA, wc, OA, oc, rfl, hob, how, hoo, hb4⟩
  have hk4 : Below w4.heap.size w4 (w4.alloc (.cells #[.int .i64 fn, .int .i64 ex, .slice BA bl bc, .slice WA wl wc, .int .i64 at_, .int .i64 q, .int .u16 v, .int .u16 an, .int .u16 orr, .int .i64 co, .int .i64 le, .bool mo, .int .i64 nx, .slice OA ol oc] 31)) := (Below.refl _ _).alloc (Nat.le_refl _) _
  have hb4a := hb4.trans (hk4.mono hb4.size)
  have h4 : WholeV (w4.alloc (.cells #[.int .i64 fn, .int .i64 ex, .slice BA bl bc, .slice WA wl wc, .int .i64 at_, .int .i64 q, .int .u16 v, .int .u16 an, .int .u16 orr, .int .i64 co, .int .i64 le, .bool mo, .int .i64 nx, .slice OA ol oc] 31)) w4.heap.size 31 [.int .i64 fn, .int .i64 ex, .slice BA bl bc, .slice WA wl wc, .int .i64 at_, .int .i64 q, .int .u16 v, .int .u16 an, .int .u16 orr, .int .i64 co, .int .i64 le, .bool mo, .int .i64 nx, .slice OA ol oc] := heap_alloc_new w4 _
  have H4 := Lib.hid h4
  have HB4 := Lib.hid (HB3.out.trans (hb4a.mono HB3.out.size))
  have HX4 := Lib.hid ((HX3.out.below hb4a).more hb4a.size)
  have HW4 := Lib.hid (HW3.out.below hb4a HW3.out.lt)
  have HA4 := Lib.hid (((own_row hob).bools.below hk4).more hk4.size)
  have HD4 := Lib.hid (((own_row how).ints.below hk4).more hk4.size)
  have HG4 := Lib.hid (ol_of_own (own2_keep hoo hk4))
  clear hob how hoo hb4 hk4 hb4a h4
  go_wp2_with fail
  refine (HDO.out _ c4 _ HX4.out hc4).mono ?_
  rintro e w5 ⟨BB, bd, WB, wd, OB, od, rfl, hob, how, hoo, hb5⟩
  have hk5 : Below w5.heap.size w5 (w5.alloc (.cells #[.int .i64 fn, .int .i64 ex, .slice BB bl bd, .slice WB wl wd, .int .i64 at_, .int .i64 q, .int .u16 v, .int .u16 an, .int .u16 orr, .int .i64 co, .int .i64 le, .bool mo, .int .i64 nx, .slice OB ol od] 31)) := (Below.refl _ _).alloc (Nat.le_refl _) _
  have hb5a := hb5.trans (hk5.mono hb5.size)
  have h5 := H4.out.below hb5 H4.out.lt
  have hz5 : w4.heap.size < w5.heap.size := h5.lt
  obtain ⟨hq0, hq1, hq2, hq3, hq4, hq5, hq6, hq7, hq8, hq9, hq10, hq11, hq12, hq13⟩ := cells14 h5
  have HB5 := Lib.hid (HB4.out.trans (hb5a.mono HB4.out.size))
  have HX5 := Lib.hid ((HX4.out.below hb5a).more hb5a.size)
  have HW5 := Lib.hid (HW4.out.below hb5a HW4.out.lt)
  have HA5 := Lib.hid ((HA4.out.below hb5a).more hb5a.size)
  have HD5 := Lib.hid ((HD4.out.below hb5a).more hb5a.size)
  have HG5 := Lib.hid (HG4.out.keep5 hb5a)
  have HE5 := Lib.hid (((own_row hob).bools.below hk5).more hk5.size)
  have HF5 := Lib.hid (((own_row how).ints.below hk5).more hk5.size)
  have HH5 := Lib.hid (ol_of_own (own2_keep hoo hk5))
  clear hob how hoo hb5 hk5 hb5a h5
  go_wp2_with fail
  refine (sametell_yes fn ex at_ q v an orr co le mo nx bs ws os bl wl ol BA WA OA BB WB OB bc wc oc bd wd od _ HA5.out HE5.out HD5.out HF5.out HG5.out HH5.out hbl hwl hol).mono ?_
  rintro e w6 ⟨rfl, hb6⟩
  have HB6 := Lib.hid (HB5.out.trans (hb6.mono HB5.out.size))
  have HX6 := Lib.hid ((HX5.out.below hb6).more hb6.size)
  have HW6 := Lib.hid (HW5.out.below hb6 HW5.out.lt)
  clear hb6
  go_wp2_with fail
  refine (stays_any B n c4 _ zs _ HX6.out HW6.out (by omega)).mono ?_
  rintro e w7 ⟨rfl, d7, rfl⟩
  go_wp2
  go_ret
  exact ⟨rfl, below_drewN HB6.out _⟩

set_option maxRecDepth 100000 in
set_option maxHeartbeats 4000000 in
theorem walk_empty (D : Option Addr) (n c : Nat) (zs : List Int) (m fv : Int) (w : World) (hr : Row .u8 w w.heap.size D n zs) (hx : Bytes8 zs) (hn : n ≤ 300) (m0 : -9223372036854775808 ≤ m) (m1 : m ≤ 9223372036854775807) (f0 : -9223372036854775808 ≤ fv) (f1 : fv ≤ 9223372036854775807) (hn0 : n = 0) :
    Calls Try.prog 3 #[.slice D n c, .int .i64 m, .int .i64 fv, .bool true] w fun e w' => e = .returned (.bool true) ∧ Below w.heap.size w w' := by
  have hgt : ¬ (300 : Int) < (n : Int) := by omega
  have hl0 := hr.1
  have HR := Lib.hid hr
  have hz1 : ¬ (0 : Int) < (n : Int) := by omega
  clear hn0
  obtain ⟨fn, ex, bl, wl, at_, q, v, an, orr, co, le, mo, nx, ol, bs, ws, os, E, hbl, hwl, hol, hpa, hdo⟩ := ends_any zs n m hx hl0 hn m0 m1
  have HPA := Lib.hid hpa
  have HDO := Lib.hid hdo
  clear hpa hdo
  clear hr hx hl0
  go_enter Try.func3, Try.ntmps3
  go_wp2_with fail
  refine (awake_any _).mono ?_
  rintro e w1 ⟨rfl, hb1⟩
  have HB1 := Lib.hid hb1
  have HO0 := Lib.hid (own_none w1 w.heap.size 5)
  have HR1 := Lib.hid ((HR.out.below hb1).more hb1.size)
  clear hb1
  go_wp2_with (first
    | (at_builtin
       refine wpList_append_row _ (o := ⟨some 24, _, _, _, _, _⟩) rfl (.const (.slice none 0 0)) (.tmp 23) 22 rfl w.heap.size 5 (.int .u8 0) 1 Try.underlying22 info5 rfl (.slice none 0 0) 0 [] rfl HO0.out _ _ n c _ rfl HR1.out.v (one_cells _ _) (by omega) (by omega) HB1.out.size ?_
       intro v2 w2 hown hg2 hat
       rw [Nat.zero_add, List.nil_append] at hown
       obtain ⟨B, c4, rfl⟩ := own_slice hown
       have HBX := Lib.hid (below_append HB1.out HO0.out hg2 HB1.out.size)
       have HOX := Lib.hid (own_row hown).ints
       have hc4 := own_cap6 hown
       clear hown hg2 hat))
  go_wp2_with fail
  refine (lent_all B n c4 zs _ HOX.out (by omega)).mono ?_
  rintro e w3 ⟨rfl, hra, hrm, hw3, hb3, hlt3⟩
  have HX3 := Lib.hid hra
  have HM3 := Lib.hid hrm
  have HW3 := Lib.hid hw3
  have HB3 := Lib.hid (HBX.out.trans (hb3.mono HBX.out.size))
  clear hra hrm hw3 hb3 hlt3
  go_wp2_with fail
  refine (HPA.out _ 0 (n + 3) _ HM3.out (by omega)).mono ?_
  rintro e w4 ⟨BA, bc, WA, wc, OA, oc, rfl, hob, how, hoo, hb4⟩
  have hk4 : Below w4.heap.size w4 (w4.alloc (.cells #[.int .i64 fn, .int .i64 ex, .slice BA bl bc, .slice WA wl wc, .int .i64 at_, .int .i64 q, .int .u16 v, .int .u16 an, .int .u16 orr, .int .i64 co, .int .i64 le, .bool mo, .int .i64 nx, .slice OA ol oc] 31)) := (Below.refl _ _).alloc (Nat.le_refl _) _
  have hb4a := hb4.trans (hk4.mono hb4.size)
  have h4 : WholeV (w4.alloc (.cells #[.int .i64 fn, .int .i64 ex, .slice BA bl bc, .slice WA wl wc, .int .i64 at_, .int .i64 q, .int .u16 v, .int .u16 an, .int .u16 orr, .int .i64 co, .int .i64 le, .bool mo, .int .i64 nx, .slice OA ol oc] 31)) w4.heap.size 31 [.int .i64 fn, .int .i64 ex, .slice BA bl bc, .slice WA wl wc, .int .i64 at_, .int .i64 q, .int .u16 v, .int .u16 an, .int .u16 orr, .int .i64 co, .int .i64 le, .bool mo, .int .i64 nx, .slice OA ol oc] := heap_alloc_new w4 _
  have H4 := Lib.hid h4
  have HB4 := Lib.hid (HB3.out.trans (hb4a.mono HB3.out.size))
  have HX4 := Lib.hid ((HX3.out.below hb4a).more hb4a.size)
  have HW4 := Lib.hid (HW3.out.below hb4a HW3.out.lt)
  have HA4 := Lib.hid (((own_row hob).bools.below hk4).more hk4.size)
  have HD4 := Lib.hid (((own_row how).ints.below hk4).more hk4.size)
  have HG4 := Lib.hid (ol_of_own (own2_keep hoo hk4))
  clear hob how hoo hb4 hk4 hb4a h4
  go_wp2_with fail
  refine (HDO.out _ c4 _ HX4.out hc4).mono ?_
  rintro e w5 ⟨BB, bd, WB, wd, OB, od, rfl, hob, how, hoo, hb5⟩
  have hk5 : Below w5.heap.size w5 (w5.alloc (.cells #[.int .i64 fn, .int .i64 ex, .slice BB bl bd, .slice WB wl wd, .int .i64 at_, .int .i64 q, .int .u16 v, .int .u16 an, .int .u16 orr, .int .i64 co, .int .i64 le, .bool mo, .int .i64 nx, .slice OB ol od] 31)) := (Below.refl _ _).alloc (Nat.le_refl _) _
  have hb5a := hb5.trans (hk5.mono hb5.size)
  have h5 := H4.out.below hb5 H4.out.lt
  have hz5 : w4.heap.size < w5.heap.size := h5.lt
  obtain ⟨hq0, hq1, hq2, hq3, hq4, hq5, hq6, hq7, hq8, hq9, hq10, hq11, hq12, hq13⟩ := cells14 h5
  have HB5 := Lib.hid (HB4.out.trans (hb5a.mono HB4.out.size))
  have HX5 := Lib.hid ((HX4.out.below hb5a).more hb5a.size)
  have HW5 := Lib.hid (HW4.out.below hb5a HW4.out.lt)
  have HA5 := Lib.hid ((HA4.out.below hb5a).more hb5a.size)
  have HD5 := Lib.hid ((HD4.out.below hb5a).more hb5a.size)
  have HG5 := Lib.hid (HG4.out.keep5 hb5a)
  have HE5 := Lib.hid (((own_row hob).bools.below hk5).more hk5.size)
  have HF5 := Lib.hid (((own_row how).ints.below hk5).more hk5.size)
  have HH5 := Lib.hid (ol_of_own (own2_keep hoo hk5))
  clear hob how hoo hb5 hk5 hb5a h5
  go_wp2_with fail
  refine (sametell_yes fn ex at_ q v an orr co le mo nx bs ws os bl wl ol BA WA OA BB WB OB bc wc oc bd wd od _ HA5.out HE5.out HD5.out HF5.out HG5.out HH5.out hbl hwl hol).mono ?_
  rintro e w6 ⟨rfl, hb6⟩
  have HB6 := Lib.hid (HB5.out.trans (hb6.mono HB5.out.size))
  have HX6 := Lib.hid ((HX5.out.below hb6).more hb6.size)
  have HW6 := Lib.hid (HW5.out.below hb6 HW5.out.lt)
  clear hb6
  go_wp2_with fail
  refine (stays_any B n c4 _ zs _ HX6.out HW6.out (by omega)).mono ?_
  rintro e w7 ⟨rfl, d7, rfl⟩
  go_wp2
  go_ret
  exact ⟨rfl, below_drewN HB6.out _⟩

set_option maxRecDepth 100000 in
set_option maxHeartbeats 4000000 in
theorem walk_one (D : Option Addr) (n c : Nat) (zs : List Int) (m fv : Int) (w : World) (hr : Row .u8 w w.heap.size D n zs) (hx : Bytes8 zs) (hn : n ≤ 300) (m0 : -9223372036854775808 ≤ m) (m1 : m ≤ 9223372036854775807) (f0 : -9223372036854775808 ≤ fv) (f1 : fv ≤ 9223372036854775807) (hn1 : n = 1) (hzc : 0 ≤ fv % 46) :
    Calls Try.prog 3 #[.slice D n c, .int .i64 m, .int .i64 fv, .bool true] w fun e w' => e = .returned (.bool true) ∧ Below w.heap.size w w' := by
  have hgt : ¬ (300 : Int) < (n : Int) := by omega
  have hl0 := hr.1
  have HR := Lib.hid hr
  obtain ⟨z, hz⟩ : ∃ z, fv % 46 = z := ⟨_, rfl⟩
  rw [hz] at hzc
  have z0 : 0 ≤ z := by omega
  have z1 : z < 46 := by omega
  have wz : IntKind.u8.wrap z = z := IntWalk.u8_in _ (by omega)
  have CW46 := Lib.hid (fun W => within_any fv 46 W f0 f1 (by omega) (by omega))
  rw [hz] at CW46
  obtain ⟨ys, hys⟩ : ∃ ys, zs.set 0 z = ys := ⟨_, rfl⟩
  have HY : Bytes8 ys := by
    rw [← hys]
    intro u hu
    rcases List.mem_or_eq_of_mem_set hu with h | h
    · exact hx u h
    · omega
  have HLn : ys.length = n := by rw [← hys]; simpa using hl0
  have HYs := Lib.hid hys
  have HL0 := Lib.hid hl0
  have hn0' : (0 : Int) < (n : Int) := by omega
  obtain ⟨fn, ex, bl, wl, at_, q, v, an, orr, co, le, mo, nx, ol, bs, ws, os, E, hbl, hwl, hol, hpa, hdo⟩ := ends_any ys n m HY HLn hn m0 m1
  have HPA := Lib.hid hpa
  have HDO := Lib.hid hdo
  clear hpa hdo
  have HZC := Lib.hid hzc
  clear hr hx hl0 hys hz HY HLn
  have hn1b : ¬ (1 : Int) < (n : Int) := by omega
  have hpos : 1 ≤ n := by omega
  clear hn1
  go_enter Try.func3, Try.ntmps3
  go_wp2_with fail
  refine (awake_any _).mono ?_
  rintro e w1 ⟨rfl, hb1⟩
  have HB1 := Lib.hid hb1
  have HO0 := Lib.hid (own_none w1 w.heap.size 5)
  have HR1 := Lib.hid ((HR.out.below hb1).more hb1.size)
  clear hb1
  go_wp2_with (first
    | (at_builtin
       refine wpList_append_row _ (o := ⟨some 24, _, _, _, _, _⟩) rfl (.const (.slice none 0 0)) (.tmp 23) 22 rfl w.heap.size 5 (.int .u8 0) 1 Try.underlying22 info5 rfl (.slice none 0 0) 0 [] rfl HO0.out _ _ n c _ rfl HR1.out.v (one_cells _ _) (by omega) (by omega) HB1.out.size ?_
       intro v2 w2 hown hg2 hat
       rw [Nat.zero_add, List.nil_append] at hown
       have hc4' := hown
       obtain ⟨g, c4, rfl, hgb, hrow, hfr, hset⟩ := own_open hown (by omega)
       have hc4 := own_cap6 hc4'
       have HBW2 := Lib.hid (below_append HB1.out HO0.out hg2 HB1.out.size)
       obtain ⟨b', off', e', _, hcell⟩ := hrow.2 (by omega)
       injection e' with e'
       injection e' with e1 e2
       subst e1 e2
       have hcg := hcell 0 (by omega)
       rw [List.getElem?_map, List.getElem?_eq_getElem (by rw [HL0.out]; omega), Option.map_some] at hcg
       have hfg := hfr 0
       have HOW2 := Lib.hid hc4'
       have HGB := Lib.hid hgb
       clear hown hc4' hg2 hat hrow hfr hset hcell)
    | (go_at_call 10; (with_reducible refine (CW46.out _).mono ?_); rintro e w' ⟨rfl, rfl⟩))
  obtain ⟨W, hW⟩ : ∃ W, (w2.setCell ⟨g, 0, none⟩ (.int .u8 z)) = W := ⟨_, rfl⟩
  have HBX : Hid (Below w.heap.size w W) := by rw [← hW]; exact (HBW2.out.setCell (p := ⟨g, 0, none⟩) HGB.out (.int .u8 z))
  have HOX : Hid (Row .u8 W W.heap.size (some ⟨g, 0, none⟩) n ys) := by
    have h := (own_setI HOW2.out (by omega) 0 (.int .u8 z))
    rw [hW, ← List.map_set, HYs.out] at h
    exact (own_row h).ints
  rw [hW]
  clear hW
  go_wp2_with fail
  refine (lent_all (some ⟨g, 0, none⟩) n c4 ys _ HOX.out (by omega)).mono ?_
  rintro e w3 ⟨rfl, hra, hrm, hw3, hb3, hlt3⟩
  have HX3 := Lib.hid hra
  have HM3 := Lib.hid hrm
  have HW3 := Lib.hid hw3
  have HB3 := Lib.hid (HBX.out.trans (hb3.mono HBX.out.size))
  clear hra hrm hw3 hb3 hlt3
  go_wp2_with fail
  refine (HPA.out _ 0 (n + 3) _ HM3.out (by omega)).mono ?_
  rintro e w4 ⟨BA, bc, WA, wc, OA, oc, rfl, hob, how, hoo, hb4⟩
  have hk4 : Below w4.heap.size w4 (w4.alloc (.cells #[.int .i64 fn, .int .i64 ex, .slice BA bl bc, .slice WA wl wc, .int .i64 at_, .int .i64 q, .int .u16 v, .int .u16 an, .int .u16 orr, .int .i64 co, .int .i64 le, .bool mo, .int .i64 nx, .slice OA ol oc] 31)) := (Below.refl _ _).alloc (Nat.le_refl _) _
  have hb4a := hb4.trans (hk4.mono hb4.size)
  have h4 : WholeV (w4.alloc (.cells #[.int .i64 fn, .int .i64 ex, .slice BA bl bc, .slice WA wl wc, .int .i64 at_, .int .i64 q, .int .u16 v, .int .u16 an, .int .u16 orr, .int .i64 co, .int .i64 le, .bool mo, .int .i64 nx, .slice OA ol oc] 31)) w4.heap.size 31 [.int .i64 fn, .int .i64 ex, .slice BA bl bc, .slice WA wl wc, .int .i64 at_, .int .i64 q, .int .u16 v, .int .u16 an, .int .u16 orr, .int .i64 co, .int .i64 le, .bool mo, .int .i64 nx, .slice OA ol oc] := heap_alloc_new w4 _
  have H4 := Lib.hid h4
  have HB4 := Lib.hid (HB3.out.trans (hb4a.mono HB3.out.size))
  have HX4 := Lib.hid ((HX3.out.below hb4a).more hb4a.size)
  have HW4 := Lib.hid (HW3.out.below hb4a HW3.out.lt)
  have HA4 := Lib.hid (((own_row hob).bools.below hk4).more hk4.size)
  have HD4 := Lib.hid (((own_row how).ints.below hk4).more hk4.size)
  have HG4 := Lib.hid (ol_of_own (own2_keep hoo hk4))
  clear hob how hoo hb4 hk4 hb4a h4
  go_wp2_with fail
  refine (HDO.out _ c4 _ HX4.out hc4).mono ?_
  rintro e w5 ⟨BB, bd, WB, wd, OB, od, rfl, hob, how, hoo, hb5⟩
  have hk5 : Below w5.heap.size w5 (w5.alloc (.cells #[.int .i64 fn, .int .i64 ex, .slice BB bl bd, .slice WB wl wd, .int .i64 at_, .int .i64 q, .int .u16 v, .int .u16 an, .int .u16 orr, .int .i64 co, .int .i64 le, .bool mo, .int .i64 nx, .slice OB ol od] 31)) := (Below.refl _ _).alloc (Nat.le_refl _) _
  have hb5a := hb5.trans (hk5.mono hb5.size)
  have h5 := H4.out.below hb5 H4.out.lt
  have hz5 : w4.heap.size < w5.heap.size := h5.lt
  obtain ⟨hq0, hq1, hq2, hq3, hq4, hq5, hq6, hq7, hq8, hq9, hq10, hq11, hq12, hq13⟩ := cells14 h5
  have HB5 := Lib.hid (HB4.out.trans (hb5a.mono HB4.out.size))
  have HX5 := Lib.hid ((HX4.out.below hb5a).more hb5a.size)
  have HW5 := Lib.hid (HW4.out.below hb5a HW4.out.lt)
  have HA5 := Lib.hid ((HA4.out.below hb5a).more hb5a.size)
  have HD5 := Lib.hid ((HD4.out.below hb5a).more hb5a.size)
  have HG5 := Lib.hid (HG4.out.keep5 hb5a)
  have HE5 := Lib.hid (((own_row hob).bools.below hk5).more hk5.size)
  have HF5 := Lib.hid (((own_row how).ints.below hk5).more hk5.size)
  have HH5 := Lib.hid (ol_of_own (own2_keep hoo hk5))
  clear hob how hoo hb5 hk5 hb5a h5
  go_wp2_with fail
  refine (sametell_yes fn ex at_ q v an orr co le mo nx bs ws os bl wl ol BA WA OA BB WB OB bc wc oc bd wd od _ HA5.out HE5.out HD5.out HF5.out HG5.out HH5.out hbl hwl hol).mono ?_
  rintro e w6 ⟨rfl, hb6⟩
  have HB6 := Lib.hid (HB5.out.trans (hb6.mono HB5.out.size))
  have HX6 := Lib.hid ((HX5.out.below hb6).more hb6.size)
  have HW6 := Lib.hid (HW5.out.below hb6 HW5.out.lt)
  clear hb6
  go_wp2_with fail
  refine (stays_any (some ⟨g, 0, none⟩) n c4 _ ys _ HX6.out HW6.out (by omega)).mono ?_
  rintro e w7 ⟨rfl, d7, rfl⟩
  go_wp2
  go_ret
  exact ⟨rfl, below_drewN HB6.out _⟩

set_option maxRecDepth 100000 in
set_option maxHeartbeats 4000000 in
theorem walk_five (D : Option Addr) (n c : Nat) (zs : List Int) (m fv : Int) (w : World) (hr : Row .u8 w w.heap.size D n zs) (hx : Bytes8 zs) (hn : n ≤ 300) (m0 : -9223372036854775808 ≤ m) (m1 : m ≤ 9223372036854775807) (f0 : -9223372036854775808 ≤ fv) (f1 : fv ≤ 9223372036854775807) (hn1 : 1 < n) (hzc : 0 ≤ fv % 46 ∧ 5 ≤ fv % 46) :
    Calls Try.prog 3 #[.slice D n c, .int .i64 m, .int .i64 fv, .bool true] w fun e w' => e = .returned (.bool true) ∧ Below w.heap.size w w' := by
  have hgt : ¬ (300 : Int) < (n : Int) := by omega
  have hl0 := hr.1
  have HR := Lib.hid hr
  obtain ⟨z, hz⟩ : ∃ z, fv % 46 = z := ⟨_, rfl⟩
  rw [hz] at hzc
  have z0 : 0 ≤ z := by omega
  have z1 : z < 46 := by omega
  have wz : IntKind.u8.wrap z = z := IntWalk.u8_in _ (by omega)
  have CW46 := Lib.hid (fun W => within_any fv 46 W f0 f1 (by omega) (by omega))
  rw [hz] at CW46
  obtain ⟨ys, hys⟩ : ∃ ys, zs.set 0 z = ys := ⟨_, rfl⟩
  have HY : Bytes8 ys := by
    rw [← hys]
    intro u hu
    rcases List.mem_or_eq_of_mem_set hu with h | h
    · exact hx u h
    · omega
  have HLn : ys.length = n := by rw [← hys]; simpa using hl0
  have HYs := Lib.hid hys
  have HL0 := Lib.hid hl0
  have hn0' : (0 : Int) < (n : Int) := by omega
  obtain ⟨fn, ex, bl, wl, at_, q, v, an, orr, co, le, mo, nx, ol, bs, ws, os, E, hbl, hwl, hol, hpa, hdo⟩ := ends_any ys n m HY HLn hn m0 m1
  have HPA := Lib.hid hpa
  have HDO := Lib.hid hdo
  clear hpa hdo
  have HZC := Lib.hid hzc
  clear hr hx hl0 hys hz HY HLn
  have hn1b : (1 : Int) < (n : Int) := by omega
  have hz5b : ¬ z < 5 := by have := HZC.out.2; omega
  go_enter Try.func3, Try.ntmps3
  go_wp2_with fail
  refine (awake_any _).mono ?_
  rintro e w1 ⟨rfl, hb1⟩
  have HB1 := Lib.hid hb1
  have HO0 := Lib.hid (own_none w1 w.heap.size 5)
  have HR1 := Lib.hid ((HR.out.below hb1).more hb1.size)
  clear hb1
  go_wp2_with (first
    | (at_builtin
       refine wpList_append_row _ (o := ⟨some 24, _, _, _, _, _⟩) rfl (.const (.slice none 0 0)) (.tmp 23) 22 rfl w.heap.size 5 (.int .u8 0) 1 Try.underlying22 info5 rfl (.slice none 0 0) 0 [] rfl HO0.out _ _ n c _ rfl HR1.out.v (one_cells _ _) (by omega) (by omega) HB1.out.size ?_
       intro v2 w2 hown hg2 hat
       rw [Nat.zero_add, List.nil_append] at hown
       have hc4' := hown
       obtain ⟨g, c4, rfl, hgb, hrow, hfr, hset⟩ := own_open hown (by omega)
       have hc4 := own_cap6 hc4'
       have HBW2 := Lib.hid (below_append HB1.out HO0.out hg2 HB1.out.size)
       obtain ⟨b', off', e', _, hcell⟩ := hrow.2 (by omega)
       injection e' with e'
       injection e' with e1 e2
       subst e1 e2
       have hcg := hcell 0 (by omega)
       rw [List.getElem?_map, List.getElem?_eq_getElem (by rw [HL0.out]; omega), Option.map_some] at hcg
       have hfg := hfr 0
       have HOW2 := Lib.hid hc4'
       have HGB := Lib.hid hgb
       clear hown hc4' hg2 hat hrow hfr hset hcell)
    | (go_at_call 10; (with_reducible refine (CW46.out _).mono ?_); rintro e w' ⟨rfl, rfl⟩))
  obtain ⟨W, hW⟩ : ∃ W, (w2.setCell ⟨g, 0, none⟩ (.int .u8 z)) = W := ⟨_, rfl⟩
  have HBX : Hid (Below w.heap.size w W) := by rw [← hW]; exact (HBW2.out.setCell (p := ⟨g, 0, none⟩) HGB.out (.int .u8 z))
  have HOX : Hid (Row .u8 W W.heap.size (some ⟨g, 0, none⟩) n ys) := by
    have h := (own_setI HOW2.out (by omega) 0 (.int .u8 z))
    rw [hW, ← List.map_set, HYs.out] at h
    exact (own_row h).ints
  rw [hW]
  clear hW
  go_wp2_with fail
  refine (lent_all (some ⟨g, 0, none⟩) n c4 ys _ HOX.out (by omega)).mono ?_
  rintro e w3 ⟨rfl, hra, hrm, hw3, hb3, hlt3⟩
  have HX3 := Lib.hid hra
  have HM3 := Lib.hid hrm
  have HW3 := Lib.hid hw3
  have HB3 := Lib.hid (HBX.out.trans (hb3.mono HBX.out.size))
  clear hra hrm hw3 hb3 hlt3
  go_wp2_with fail
  refine (HPA.out _ 0 (n + 3) _ HM3.out (by omega)).mono ?_
  rintro e w4 ⟨BA, bc, WA, wc, OA, oc, rfl, hob, how, hoo, hb4⟩
  have hk4 : Below w4.heap.size w4 (w4.alloc (.cells #[.int .i64 fn, .int .i64 ex, .slice BA bl bc, .slice WA wl wc, .int .i64 at_, .int .i64 q, .int .u16 v, .int .u16 an, .int .u16 orr, .int .i64 co, .int .i64 le, .bool mo, .int .i64 nx, .slice OA ol oc] 31)) := (Below.refl _ _).alloc (Nat.le_refl _) _
  have hb4a := hb4.trans (hk4.mono hb4.size)
  have h4 : WholeV (w4.alloc (.cells #[.int .i64 fn, .int .i64 ex, .slice BA bl bc, .slice WA wl wc, .int .i64 at_, .int .i64 q, .int .u16 v, .int .u16 an, .int .u16 orr, .int .i64 co, .int .i64 le, .bool mo, .int .i64 nx, .slice OA ol oc] 31)) w4.heap.size 31 [.int .i64 fn, .int .i64 ex, .slice BA bl bc, .slice WA wl wc, .int .i64 at_, .int .i64 q, .int .u16 v, .int .u16 an, .int .u16 orr, .int .i64 co, .int .i64 le, .bool mo, .int .i64 nx, .slice OA ol oc] := heap_alloc_new w4 _
  have H4 := Lib.hid h4
  have HB4 := Lib.hid (HB3.out.trans (hb4a.mono HB3.out.size))
  have HX4 := Lib.hid ((HX3.out.below hb4a).more hb4a.size)
  have HW4 := Lib.hid (HW3.out.below hb4a HW3.out.lt)
  have HA4 := Lib.hid (((own_row hob).bools.below hk4).more hk4.size)
  have HD4 := Lib.hid (((own_row how).ints.below hk4).more hk4.size)
  have HG4 := Lib.hid (ol_of_own (own2_keep hoo hk4))
  clear hob how hoo hb4 hk4 hb4a h4
  go_wp2_with fail
  refine (HDO.out _ c4 _ HX4.out hc4).mono ?_
  rintro e w5 ⟨BB, bd, WB, wd, OB, od, rfl, hob, how, hoo, hb5⟩
  have hk5 : Below w5.heap.size w5 (w5.alloc (.cells #[.int .i64 fn, .int .i64 ex, .slice BB bl bd, .slice WB wl wd, .int .i64 at_, .int .i64 q, .int .u16 v, .int .u16 an, .int .u16 orr, .int .i64 co, .int .i64 le, .bool mo, .int .i64 nx, .slice OB ol od] 31)) := (Below.refl _ _).alloc (Nat.le_refl _) _
  have hb5a := hb5.trans (hk5.mono hb5.size)
  have h5 := H4.out.below hb5 H4.out.lt
  have hz5 : w4.heap.size < w5.heap.size := h5.lt
  obtain ⟨hq0, hq1, hq2, hq3, hq4, hq5, hq6, hq7, hq8, hq9, hq10, hq11, hq12, hq13⟩ := cells14 h5
  have HB5 := Lib.hid (HB4.out.trans (hb5a.mono HB4.out.size))
  have HX5 := Lib.hid ((HX4.out.below hb5a).more hb5a.size)
  have HW5 := Lib.hid (HW4.out.below hb5a HW4.out.lt)
  have HA5 := Lib.hid ((HA4.out.below hb5a).more hb5a.size)
  have HD5 := Lib.hid ((HD4.out.below hb5a).more hb5a.size)
  have HG5 := Lib.hid (HG4.out.keep5 hb5a)
  have HE5 := Lib.hid (((own_row hob).bools.below hk5).more hk5.size)
  have HF5 := Lib.hid (((own_row how).ints.below hk5).more hk5.size)
  have HH5 := Lib.hid (ol_of_own (own2_keep hoo hk5))
  clear hob how hoo hb5 hk5 hb5a h5
  go_wp2_with fail
  refine (sametell_yes fn ex at_ q v an orr co le mo nx bs ws os bl wl ol BA WA OA BB WB OB bc wc oc bd wd od _ HA5.out HE5.out HD5.out HF5.out HG5.out HH5.out hbl hwl hol).mono ?_
  rintro e w6 ⟨rfl, hb6⟩
  have HB6 := Lib.hid (HB5.out.trans (hb6.mono HB5.out.size))
  have HX6 := Lib.hid ((HX5.out.below hb6).more hb6.size)
  have HW6 := Lib.hid (HW5.out.below hb6 HW5.out.lt)
  clear hb6
  go_wp2_with fail
  refine (stays_any (some ⟨g, 0, none⟩) n c4 _ ys _ HX6.out HW6.out (by omega)).mono ?_
  rintro e w7 ⟨rfl, d7, rfl⟩
  go_wp2
  go_ret
  exact ⟨rfl, below_drewN HB6.out _⟩

set_option maxRecDepth 100000 in
set_option maxHeartbeats 4000000 in
theorem walk_two (D : Option Addr) (n c : Nat) (zs : List Int) (m fv : Int) (w : World) (hr : Row .u8 w w.heap.size D n zs) (hx : Bytes8 zs) (hn : n ≤ 300) (m0 : -9223372036854775808 ≤ m) (m1 : m ≤ 9223372036854775807) (f0 : -9223372036854775808 ≤ fv) (f1 : fv ≤ 9223372036854775807) (hn1 : 1 < n) (hzc : 0 ≤ fv % 46 ∧ fv % 46 < 5) :
    Calls Try.prog 3 #[.slice D n c, .int .i64 m, .int .i64 fv, .bool true] w fun e w' => e = .returned (.bool true) ∧ Below w.heap.size w w' := by
  have hgt : ¬ (300 : Int) < (n : Int) := by omega
  have hl0 := hr.1
  have HR := Lib.hid hr
  obtain ⟨z, hz⟩ : ∃ z, fv % 46 = z := ⟨_, rfl⟩
  rw [hz] at hzc
  have z0 : 0 ≤ z := by omega
  have z1 : z < 46 := by omega
  have wz : IntKind.u8.wrap z = z := IntWalk.u8_in _ (by omega)
  have hz5b : z < 5 := hzc.2
  obtain ⟨y, hy⟩ : ∃ y, ((n : Int) - 2) % 256 = y := ⟨_, rfl⟩
  have wy : IntKind.u8.wrap ((n : Int) - 2) = y := by rw [IntKind.wrap_u8]; exact hy
  have y0 : 0 ≤ y ∧ y < 256 := by omega
  obtain ⟨R, hR⟩ : ∃ R, m % 9 = R := ⟨_, rfl⟩
  have hR0 : 0 ≤ R ∧ R < 9 := by omega
  have CW9 := Lib.hid (fun W => within_any m 9 W m0 m1 (by omega) (by omega))
  rw [hR] at CW9
  have CW46 := Lib.hid (fun W => within_any fv 46 W f0 f1 (by omega) (by omega))
  rw [hz] at CW46
  obtain ⟨ys, hys⟩ : ∃ ys, (zs.set 0 z).set 1 y = ys := ⟨_, rfl⟩
  have HY : Bytes8 ys := by
    rw [← hys]
    intro u hu
    rcases List.mem_or_eq_of_mem_set hu with h | h
    · rcases List.mem_or_eq_of_mem_set h with h | h
      · exact hx u h
      · omega
    · omega
  have HLn : ys.length = n := by rw [← hys]; simpa using hl0
  have HYs := Lib.hid hys
  have HL0 := Lib.hid hl0
  have hn0' : (0 : Int) < (n : Int) := by omega
  have hn1' : (1 : Int) < (n : Int) := by omega
  have hn1n : 1 < n := by omega
  obtain ⟨fn, ex, bl, wl, at_, q, v, an, orr, co, le, mo, nx, ol, bs, ws, os, E, hbl, hwl, hol, hpa, hdo⟩ := ends_any ys n (8 * ((n : Int) - 2) - R) HY HLn hn (by omega) (by omega)
  have HPA := Lib.hid hpa
  have HDO := Lib.hid hdo
  clear hpa hdo
  have HZC := Lib.hid hzc
  clear hr hx hl0 hys hz HY HLn hy hR
  go_enter Try.func3, Try.ntmps3
  go_wp2_with fail
  refine (awake_any _).mono ?_
  rintro e w1 ⟨rfl, hb1⟩
  have HB1 := Lib.hid hb1
  have HO0 := Lib.hid (own_none w1 w.heap.size 5)
  have HR1 := Lib.hid ((HR.out.below hb1).more hb1.size)
  clear hb1
  go_wp2_with (first
    | (at_builtin
       refine wpList_append_row _ (o := ⟨some 24, _, _, _, _, _⟩) rfl (.const (.slice none 0 0)) (.tmp 23) 22 rfl w.heap.size 5 (.int .u8 0) 1 Try.underlying22 info5 rfl (.slice none 0 0) 0 [] rfl HO0.out _ _ n c _ rfl HR1.out.v (one_cells _ _) (by omega) (by omega) HB1.out.size ?_
       intro v2 w2 hown hg2 hat
       rw [Nat.zero_add, List.nil_append] at hown
       have hc4' := hown
       obtain ⟨g, c4, rfl, hgb, hrow, hfr, hset⟩ := own_open hown (by omega)
       have hc4 := own_cap6 hc4'
       have HBW2 := Lib.hid (below_append HB1.out HO0.out hg2 HB1.out.size)
       obtain ⟨b', off', e', _, hcell⟩ := hrow.2 (by omega)
       injection e' with e'
       injection e' with e1 e2
       subst e1 e2
       have hcg := hcell 0 (by omega)
       rw [List.getElem?_map, List.getElem?_eq_getElem (by rw [HL0.out]; omega), Option.map_some] at hcg
       have hfg := hfr 0
       have hcg1 := hcell 1 (by omega)
       rw [List.getElem?_map, List.getElem?_eq_getElem (by rw [HL0.out]; omega), Option.map_some, Nat.zero_add] at hcg1
       have hfg1 := hfr 1
       have HOW2 := Lib.hid hc4'
       have HGB := Lib.hid hgb
       clear hown hc4' hg2 hat hrow hfr hset hcell)
    | (go_at_call 10; (with_reducible refine (CW46.out _).mono ?_); rintro e w' ⟨rfl, rfl⟩)
    | (go_at_call 10; (with_reducible refine (CW9.out _).mono ?_); rintro e w' ⟨rfl, rfl⟩))
  obtain ⟨W, hW⟩ : ∃ W, ((w2.setCell ⟨g, 0, none⟩ (.int .u8 z)).setCell ⟨g, 1, none⟩ (.int .u8 y)) = W := ⟨_, rfl⟩
  have HBX : Hid (Below w.heap.size w W) := by rw [← hW]; exact ((HBW2.out.setCell (p := ⟨g, 0, none⟩) HGB.out (.int .u8 z)).setCell (p := ⟨g, 1, none⟩) HGB.out (.int .u8 y))
  have HOX : Hid (Row .u8 W W.heap.size (some ⟨g, 0, none⟩) n ys) := by
    have h := (own_setI (own_setI HOW2.out (by omega) 0 (.int .u8 z)) (by omega) 1 (.int .u8 y))
    rw [hW, ← List.map_set, ← List.map_set, HYs.out] at h
    exact (own_row h).ints
  rw [hW]
  clear hW
  go_wp2_with fail
  refine (lent_all (some ⟨g, 0, none⟩) n c4 ys _ HOX.out (by omega)).mono ?_
  rintro e w3 ⟨rfl, hra, hrm, hw3, hb3, hlt3⟩
  have HX3 := Lib.hid hra
  have HM3 := Lib.hid hrm
  have HW3 := Lib.hid hw3
  have HB3 := Lib.hid (HBX.out.trans (hb3.mono HBX.out.size))
  clear hra hrm hw3 hb3 hlt3
  go_wp2_with fail
  refine (HPA.out _ 0 (n + 3) _ HM3.out (by omega)).mono ?_
  rintro e w4 ⟨BA, bc, WA, wc, OA, oc, rfl, hob, how, hoo, hb4⟩
  have hk4 : Below w4.heap.size w4 (w4.alloc (.cells #[.int .i64 fn, .int .i64 ex, .slice BA bl bc, .slice WA wl wc, .int .i64 at_, .int .i64 q, .int .u16 v, .int .u16 an, .int .u16 orr, .int .i64 co, .int .i64 le, .bool mo, .int .i64 nx, .slice OA ol oc] 31)) := (Below.refl _ _).alloc (Nat.le_refl _) _
  have hb4a := hb4.trans (hk4.mono hb4.size)
  have h4 : WholeV (w4.alloc (.cells #[.int .i64 fn, .int .i64 ex, .slice BA bl bc, .slice WA wl wc, .int .i64 at_, .int .i64 q, .int .u16 v, .int .u16 an, .int .u16 orr, .int .i64 co, .int .i64 le, .bool mo, .int .i64 nx, .slice OA ol oc] 31)) w4.heap.size 31 [.int .i64 fn, .int .i64 ex, .slice BA bl bc, .slice WA wl wc, .int .i64 at_, .int .i64 q, .int .u16 v, .int .u16 an, .int .u16 orr, .int .i64 co, .int .i64 le, .bool mo, .int .i64 nx, .slice OA ol oc] := heap_alloc_new w4 _
  have H4 := Lib.hid h4
  have HB4 := Lib.hid (HB3.out.trans (hb4a.mono HB3.out.size))
  have HX4 := Lib.hid ((HX3.out.below hb4a).more hb4a.size)
  have HW4 := Lib.hid (HW3.out.below hb4a HW3.out.lt)
  have HA4 := Lib.hid (((own_row hob).bools.below hk4).more hk4.size)
  have HD4 := Lib.hid (((own_row how).ints.below hk4).more hk4.size)
  have HG4 := Lib.hid (ol_of_own (own2_keep hoo hk4))
  clear hob how hoo hb4 hk4 hb4a h4
  go_wp2_with fail
  refine (HDO.out _ c4 _ HX4.out hc4).mono ?_
  rintro e w5 ⟨BB, bd, WB, wd, OB, od, rfl, hob, how, hoo, hb5⟩
  have hk5 : Below w5.heap.size w5 (w5.alloc (.cells #[.int .i64 fn, .int .i64 ex, .slice BB bl bd, .slice WB wl wd, .int .i64 at_, .int .i64 q, .int .u16 v, .int .u16 an, .int .u16 orr, .int .i64 co, .int .i64 le, .bool mo, .int .i64 nx, .slice OB ol od] 31)) := (Below.refl _ _).alloc (Nat.le_refl _) _
  have hb5a := hb5.trans (hk5.mono hb5.size)
  have h5 := H4.out.below hb5 H4.out.lt
  have hz5 : w4.heap.size < w5.heap.size := h5.lt
  obtain ⟨hq0, hq1, hq2, hq3, hq4, hq5, hq6, hq7, hq8, hq9, hq10, hq11, hq12, hq13⟩ := cells14 h5
  have HB5 := Lib.hid (HB4.out.trans (hb5a.mono HB4.out.size))
  have HX5 := Lib.hid ((HX4.out.below hb5a).more hb5a.size)
  have HW5 := Lib.hid (HW4.out.below hb5a HW4.out.lt)
  have HA5 := Lib.hid ((HA4.out.below hb5a).more hb5a.size)
  have HD5 := Lib.hid ((HD4.out.below hb5a).more hb5a.size)
  have HG5 := Lib.hid (HG4.out.keep5 hb5a)
  have HE5 := Lib.hid (((own_row hob).bools.below hk5).more hk5.size)
  have HF5 := Lib.hid (((own_row how).ints.below hk5).more hk5.size)
  have HH5 := Lib.hid (ol_of_own (own2_keep hoo hk5))
  clear hob how hoo hb5 hk5 hb5a h5
  go_wp2_with fail
  refine (sametell_yes fn ex at_ q v an orr co le mo nx bs ws os bl wl ol BA WA OA BB WB OB bc wc oc bd wd od _ HA5.out HE5.out HD5.out HF5.out HG5.out HH5.out hbl hwl hol).mono ?_
  rintro e w6 ⟨rfl, hb6⟩
  have HB6 := Lib.hid (HB5.out.trans (hb6.mono HB5.out.size))
  have HX6 := Lib.hid ((HX5.out.below hb6).more hb6.size)
  have HW6 := Lib.hid (HW5.out.below hb6 HW5.out.lt)
  clear hb6
  go_wp2_with fail
  refine (stays_any (some ⟨g, 0, none⟩) n c4 _ ys _ HX6.out HW6.out (by omega)).mono ?_
  rintro e w7 ⟨rfl, d7, rfl⟩
  go_wp2
  go_ret
  exact ⟨rfl, below_drewN HB6.out _⟩

theorem walk (a0 : Option Addr) (len0 cap0 : Nat) (z0 : List Int) (a1 : Int) (a2 : Int) (a3 : Bool) (w : World) (w0 : IsRow .u8 w a0 len0 cap0 z0) (w1 : (Lit.int .i64 a1).wf = true) (w2 : (Lit.int .i64 a2).wf = true) :
    Calls Try.prog 3 #[.slice a0 len0 cap0, .int .i64 a1, .int .i64 a2, .bool a3] w fun e w' => e = .returned (.bool true) ∧ Below w.heap.size w w' := by
  have b1 := bounds_i64 w1
  have b2 := bounds_i64 w2
  rcases Nat.lt_or_ge 300 len0 with h | h
  · exact walk_long a0 len0 cap0 a1 a2 a3 w h
  · cases a3
    · exact walk_plain a0 len0 cap0 _ a1 a2 w w0.row w0.bytes h b1.1 b1.2 b2.1 b2.2
    · have hz := Int.emod_nonneg a2 (show (46 : Int) ≠ 0 by omega)
      rcases Nat.eq_zero_or_pos len0 with h0 | h0
      · exact walk_empty a0 len0 cap0 _ a1 a2 w w0.row w0.bytes h b1.1 b1.2 b2.1 b2.2 h0
      · by_cases h1 : len0 = 1
        · exact walk_one a0 len0 cap0 _ a1 a2 w w0.row w0.bytes h b1.1 b1.2 b2.1 b2.2 h1 hz
        · by_cases h5 : a2 % 46 < 5
          · exact walk_two a0 len0 cap0 _ a1 a2 w w0.row w0.bytes h b1.1 b1.2 b2.1 b2.2 (by omega) ⟨hz, h5⟩
          · exact walk_five a0 len0 cap0 _ a1 a2 w w0.row w0.bytes h b1.1 b1.2 b2.1 b2.2 (by omega) ⟨hz, by omega⟩

/-! ### THE ROW's STEP: WRITTEN OUT: LEAVE IT -/
set_option maxRecDepth 100000 in
theorem lifted (os : Os) (started : os.Started) (H : Type) (enc : TypeId × Value → H) :
    ReturnsInHanded {} Try.checked os 3 .any (Rows.tellReadsSpec.pre6 enc Try.prog Try.f3 Rows.tellReadsRow.domain false) (Rows.tellReadsSpec.post enc Try.prog Try.f3 false true false false) := by
  refine returnsInHanded_of_change (C := Try.checked) own started (by kernel_rfl) Try.func3
    (ChangeSpec.witness6 (enc := enc) (C := Try.checked) false ⟨#[], #[.slice none 0 0, .int .i64 0, .int .i64 0, .bool false], []⟩ 8 (by kernel_rfl) (by kernel_rfl) (by kernel_rfl) (by kernel_rfl)) ?_
  intro W base args ds gs before hval0 hW hcnd _
  have hval : ∀ (j : Nat) t v, Try.f3.params[j]? = some t → args[j]? = some v → Value.okWide Try.prog W .any base t v := hval0
  have hW' := hW
  obtain ⟨p, q, hA0, hV, rfl, hfz, hnd⟩ := hW
  have hA : DataW.TrodAll enc Try.prog W 0 (fun _ => true) true Try.f3.params.toList args.toList ds p := hA0
  rw [Try.params3] at hA hval
  obtain ⟨v0, vs0, d0, ds0, p0, q0, hargs, rfl, rfl, h0, r0⟩ := trodAll_cons hA
  obtain ⟨v1, vs1, d1, ds1, p1, q1, rfl, rfl, rfl, h1, r1⟩ := trodAll_cons r0
  obtain ⟨v2, vs2, d2, ds2, p2, q2, rfl, rfl, rfl, h2, r2⟩ := trodAll_cons r1
  obtain ⟨v3, vs3, d3, ds3, p3, q3, rfl, rfl, rfl, h3, r3⟩ := trodAll_cons r2
  obtain ⟨rfl, rfl, rfl⟩ := trodAll_nil r3
  obtain rfl : args = #[v0, v1, v2, v3] := by cases args; simp_all
  obtain ⟨rfl, rfl⟩ := trodVars_none hV
  obtain ⟨a0, len0, cap0, rfl⟩ := okWide_slice Try.underlying22 (hval 0 22 v0 rfl rfl)
  have k0 := h0
  have lt0 : ∀ x ∈ p0, x.block < W.heap.size := by obtain ⟨m, hm⟩ := k0; exact DataW.trod_lt m _ _ _ hm
  obtain ⟨z0, w0⟩ : ∃ zs, IsRow .u8 W a0 len0 cap0 zs := by
    obtain ⟨fuel, hf⟩ := h0
    rcases open_ints Try.underlying22 Try.underlying5 (by kernel_rfl) hf with ⟨hcs, _⟩ | ⟨x, l, c, zs, hcs, _, hl, hm, hz, _, hcell, hwz⟩
    · simp [Value.cells] at hcs
      obtain ⟨rfl, rfl, rfl⟩ := hcs
      exact ⟨[], .inl ⟨rfl, rfl, rfl, rfl⟩⟩
    · simp [Value.cells] at hcs
      obtain ⟨rfl, rfl, rfl⟩ := hcs
      exact ⟨zs, .inr ⟨_, rfl, hl, hm, by simpa using hz, hcell, hwz⟩⟩
  obtain ⟨a1, rfl, rfl, rfl, w1⟩ := open_int Try.underlying3 (hval 1 3 v1 rfl rfl) h1
  obtain ⟨a2, rfl, rfl, rfl, w2⟩ := open_int Try.underlying3 (hval 2 3 v2 rfl rfl) h2
  obtain ⟨a3, rfl, rfl, rfl⟩ := open_bool Try.underlying4 (hval 3 4 v3 rfl rfl) h3
  clear hA0 hval0
  refine (walk a0 len0 cap0 z0 a1 a2 a3 W w0 w1 w2).mono fun e W' ⟨he, bel⟩ => ?_
  subst he
  exact ⟨_, rfl, _, _, _, [], _, [], hW', trodAll_mk1 (shut_bool Try.underlying4 _), (trodAll_cons_mk (Below.trod laidOut (by kernel_rfl) (of_decide_eq_true (by kernel_rfl)) k0 bel lt0) (trodAll_cons_mk (shut_int Try.underlying3 w1) (trodAll_cons_mk (shut_int Try.underlying3 w2) (trodAll_cons_mk (shut_bool Try.underlying4 _) trodAll_mk0)))), rfl, bel.frame _, fun h => by cases h⟩

theorem over : Rows.tellReadsRow.holds Try.pinned (OpenSpec.ofChange Rows.tellReadsSpec) :=
  OpenClaim.holds_of_wide 3 Try.f3 rfl rfl rfl rfl rfl rfl rfl ⟨rfl, rfl, rfl, rfl, rfl⟩ rfl rfl rfl rfl rfl (by kernel_rfl) Try.func3 (by kernel_rfl)
    (of_decide_eq_true (by kernel_rfl)) (by unfold Func.isWrapper; first | (rw [if_pos (by decide +kernel)]; kernel_rfl) | (rw [if_neg (by decide +kernel)]; exact ⟨rfl, rfl⟩))
    (fun os started H enc _ => lifted os started H enc)

/-- ████ THE STATEMENT ████ -/
theorem proved : Rows.TellReadsSaid := over
#print axioms proved
end Go.Proofs.Ytokljdkbheogoaa.tellReads

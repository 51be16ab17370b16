/- Proved: for every two ints and every slice of ints, busbarlaw6.TellFits returns true, and its arguments read as before. Conditions: none. -/
import Derived.Test.YtielfekkonflfaaJMTellFits3
import Derived.Test.YtielfekkonflfaaJMTellFits9
import Derived.Test.YtielfekkonflfaaJTellBack13
import Derived.Test.YtielfekkonflfaaJMTellFits2
import Derived.Test.YtielfekkonflfaaJTellBack5
import Derived.Deep.RegionHeld3
import Derived.Deep.CutBlock
namespace Go.Proofs.Ytielfekkonflfaa.tellFits
open Go.ChangeShapes Go.WideShapes Go.ChangeAt Go.RowKit
open Go.ChangeMaps (open_string shut_string)
set_option linter.unusedVariables false


theorem first_cell {w : World} {b L : Nat} {E : List Int} {fn : Int} (h : Row .u8 w w.heap.size (some ⟨b, 0, none⟩) L E) (hE : E.getD 0 0 = fn) (hL : 3 ≤ L) : w.cell? ⟨b, 0, none⟩ = some (.int .u8 fn) := by
  obtain ⟨b', off', e, _, hc⟩ := h.2 (by omega)
  injection e with e
  injection e with e1 e2
  subst e1 e2
  have h0 := hc 0 (by omega)
  rw [hE] at h0
  exact h0

set_option maxRecDepth 100000 in
set_option maxHeartbeats 4000000 in
theorem fits_law (k v : Int) (KS : Option Addr) (m c : Nat) (zs : List Int) (w : World) (hr : Row .i64 w w.heap.size KS m zs) (hz : In64 zs)
    (k0 : -9223372036854775808 ≤ k) (k1 : k ≤ 9223372036854775807) (v0 : -9223372036854775808 ≤ v) (v1 : v ≤ 9223372036854775807) :
    Calls Try.prog 4 #[.int .i64 k, .int .i64 v, .slice KS m c] w fun e w' => e = .returned (.bool true) ∧ Below w.heap.size w w' := by
  obtain ⟨fn, at_, n, x, an, orr, bl, wl, ra, rn, co, ob, bs, ws, hG, hA⟩ := lask_is k v k0 k1 v0 v1
  have HA := Lib.hid hA
  have HG := Lib.hid hG
  have HR := Lib.hid hr
  have HZ := Lib.hid hz
  have hfn : 0 ≤ fn ∧ fn ≤ 255 := by
    rcases kinds fn with rfl | rfl | rfl | rfl | rfl | rfl | rfl | rfl | rfl | rfl | rfl | hno
    all_goals first | omega | (have := hno.known; rw [hG.1.1] at this; cases this)
  obtain ⟨fn0, fn1⟩ := hfn
  have wfn : IntKind.i64.wrap fn = fn := IntWalk.i64_in _ (by omega)
  clear hA hG hr hz
  go_enter Try.func4, Try.ntmps4
  go_wp2_with fail
  refine (awake_any _).mono ?_
  rintro e w1 ⟨rfl, hb1⟩
  obtain ⟨W2, hW2⟩ : ∃ W2, w1.alloc (.cells #[.slice none 0 0] 44) = W2 := ⟨_, rfl⟩
  have hx2 : WholeV W2 w1.heap.size 44 [.slice none 0 0] := by rw [← hW2]; exact heap_alloc_new w1 _
  have hb2 : Below w1.heap.size w1 W2 := by rw [← hW2]; exact (Below.refl _ _).alloc (Nat.le_refl _) _
  have HB1 := Lib.hid hb1
  have HB2 := Lib.hid (hb1.trans (hb2.mono hb1.size))
  have HF2 : Hid (FileAt W2 w1.heap.size 0) := ⟨none, 0, 0, hx2, CF.nil _ _, Nat.le_refl _⟩
  have hz2 : 0 < W2.heap.size := Nat.lt_of_le_of_lt (Nat.zero_le _) hx2.lt
  have hg2 : w1.heap.size < W2.heap.size := hx2.lt
  clear hb1 hb2 hx2
  go_wp2_with fail
  refine (lcells_any KS m c zs W2 ((HR.out.below HB2.out).more HB2.out.size) HZ.out hz2).mono ?_
  rintro e w3 ⟨A3, m3, c3, rfl, hm3, ho3, hb3⟩
  have HF3 := Lib.hid (HF2.out.below hb3)
  have HL3 : Hid (CL w3 w1.heap.size A3 m3) := ho3.cl hg2
  have HB3 := Lib.hid (HB2.out.trans (hb3.mono HB2.out.size))
  have hg3 : w1.heap.size < w3.heap.size := Nat.lt_of_lt_of_le hg2 hb3.size
  clear hb3 ho3
  go_wp2_with fail
  refine (fset_any w1.heap.size 0 A3 m3 c3 w3 HF3.out HL3.out (by omega)).mono ?_
  rintro e w4 ⟨rfl, hF4, hO4⟩
  have hb4 : Below w1.heap.size w3 w4 := hO4.below (Nat.le_of_lt hg3) (fun k hk e => by omega)
  have HB4 := Lib.hid (HB3.out.trans (hb4.mono HB1.out.size))
  have HF4 := Lib.hid hF4
  have hg4 : w1.heap.size < w4.heap.size := Nat.lt_of_lt_of_le hg3 hO4.size
  clear hF4 hO4 hb4
  go_wp2_with fail
  refine (HA.out w4).mono ?_
  rintro e w5 ⟨BA, WA, bc, wc, rfl, hob, how, hb5⟩
  obtain ⟨W6, hW6⟩ : ∃ W6, w5.alloc (.cells #[.int .i64 fn, .int .i64 at_, .int .i64 n, .int .u16 x, .int .u16 an, .int .u16 orr, .slice BA bl bc, .slice WA wl wc, .int .i64 ra, .int .i64 rn, .int .i64 co, .int .i64 ob] 48) = W6 := ⟨_, rfl⟩
  have hx6 : WholeV W6 w5.heap.size 48 [.int .i64 fn, .int .i64 at_, .int .i64 n, .int .u16 x, .int .u16 an, .int .u16 orr, .slice BA bl bc, .slice WA wl wc, .int .i64 ra, .int .i64 rn, .int .i64 co, .int .i64 ob] := by rw [← hW6]; exact heap_alloc_new w5 _
  have hb6 : Below w5.heap.size w5 W6 := by rw [← hW6]; exact (Below.refl _ _).alloc (Nat.le_refl _) _
  have HX6 := Lib.hid hx6
  have HBR6 := Lib.hid (((own_row hob).bools.below hb6).more hb6.size)
  have HWR6 := Lib.hid (((own_row how).ints.below hb6).more hb6.size)
  have hb56 := hb5.trans (hb6.mono hb5.size)
  have HB6 := Lib.hid (HB4.out.trans (hb56.mono HB4.out.size))
  have HF6 := Lib.hid (HF4.out.below hb56)
  have hg5 : w1.heap.size < w5.heap.size := Nat.lt_of_lt_of_le hg4 hb5.size
  have hg6 : w1.heap.size < W6.heap.size := Nat.lt_of_lt_of_le hg4 hb56.size
  obtain ⟨aa0, aa1, aa2, aa3, aa4, aa5, aa6, aa7, aa8, aa9, aa10, aa11⟩ := cells12 hx6
  clear hob how hb5 hb6 hb56 hx6
  go_wp2_with fail
  refine (fdo_any w1.heap.size (0 + m3) fn at_ n x an orr bl wl ra rn co ob BA WA bc wc bs ws W6 HF6.out (by omega) HG.out HBR6.out HWR6.out).mono ?_
  intro e w7 h7
  rcases do_parts h7 with ⟨rfl, hO7⟩ | ⟨ex, xl, yl, tat, q, v2, tan, tor, tco, le, mo, nx, ol, xs, ys, os, L, E, hxl, hyl, hol, hL3, hL253, hLe, hE0, ⟨BX, bx, WX, wx, OX, ox, rfl, hB, hW, hO, hO7⟩, hby, hpa, hri⟩
  · have hb7 : Below w1.heap.size W6 w7 := hO7.below (Nat.le_of_lt hg6) (fun k hk e => by omega)
    have HB7 := Lib.hid (HB6.out.trans (hb7.mono HB1.out.size))
    have HB7b := Lib.hid (HB7.out.alloc HB7.out.size (.cells #[.int .i64 0, .int .i64 0, .slice none 0 0, .slice none 0 0, .int .i64 0, .int .i64 0, .int .u16 0, .int .u16 0, .int .u16 0, .int .i64 0, .int .i64 0, .bool false, .int .i64 0, .slice none 0 0] 28))
    clear hO7 hb7 h7
    go_wp2
    go_ret
    exact ⟨rfl, HB7b.out⟩
  · have hb7 : Below w1.heap.size W6 w7 := hO7.below (Nat.le_of_lt hg6) (fun k hk e => by omega)
    have hx7 := hO7.whole HX6.out (by omega)
    have HY := Lib.hid hby
    have HPR := Lib.hid hpa
    have HRI := Lib.hid hri
    have HLe := Lib.hid hLe
    have HE0 := Lib.hid hE0
    have hk8 : Below w7.heap.size w7 (w7.alloc (.cells #[.int .i64 fn, .int .i64 ex, .slice BX xl bx, .slice WX yl wx, .int .i64 tat, .int .i64 q, .int .u16 v2, .int .u16 tan, .int .u16 tor, .int .i64 tco, .int .i64 le, .bool mo, .int .i64 nx, .slice OX ol ox] 28)) := (Below.refl _ _).alloc (Nat.le_refl _) _
    have h8 : WholeV (w7.alloc (.cells #[.int .i64 fn, .int .i64 ex, .slice BX xl bx, .slice WX yl wx, .int .i64 tat, .int .i64 q, .int .u16 v2, .int .u16 tan, .int .u16 tor, .int .i64 tco, .int .i64 le, .bool mo, .int .i64 nx, .slice OX ol ox] 28)) w7.heap.size 28 [.int .i64 fn, .int .i64 ex, .slice BX xl bx, .slice WX yl wx, .int .i64 tat, .int .i64 q, .int .u16 v2, .int .u16 tan, .int .u16 tor, .int .i64 tco, .int .i64 le, .bool mo, .int .i64 nx, .slice OX ol ox] := heap_alloc_new w7 _
    have HA8 := Lib.hid h8
    have HX8 := Lib.hid (hx7.below hk8 hx7.lt)
    have HB8 := Lib.hid ((HB6.out.trans (hb7.mono HB1.out.size)).trans (hk8.mono (HB6.out.trans (hb7.mono HB1.out.size)).size))
    have HBR8 := Lib.hid ((hB.below hk8).more hk8.size)
    have HWR8 := Lib.hid ((hW.below hk8).more hk8.size)
    have HOR8 := Lib.hid (hO.below hk8)
    clear hB hW hO hO7 hb7 hx7 hk8 h8 h7 hby hpa hri hLe hE0 aa0 aa1 aa2 aa3 aa4 aa5 aa6 aa7 aa8 aa9 aa10 aa11 hW2 hW6
    go_wp2_with fail
    refine (HY.out _ BX bx WX wx OX ox HBR8.out HWR8.out HOR8.out).mono ?_
    rintro e w9 ⟨C, cap, rfl, hcap, hrow9, hb9⟩
    have HA9 := Lib.hid (HA8.out.below hb9 HA8.out.lt)
    have hx9 := HX8.out.below hb9 HX8.out.lt
    have HX9 := Lib.hid hx9
    have HB9 := Lib.hid (HB8.out.trans (hb9.mono HB8.out.size))
    have HR9 := Lib.hid hrow9
    have HBR9 := Lib.hid ((HBR8.out.below hb9).more hb9.size)
    have HWR9 := Lib.hid ((HWR8.out.below hb9).more hb9.size)
    have HOR9 := Lib.hid (HOR8.out.below hb9)
    have a2 := hx9.cell 2
    clear hb9 hrow9 hx9
    go_wp2_with fail
    refine (HPR.out C cap _ HR9.out hcap).mono ?_
    rintro e w10 ⟨BB, bd, WB, wd, OB, od, rfl, hob, how, hoo, hb10⟩
    obtain ⟨W11, hW11⟩ : ∃ W11, w10.alloc (.cells #[.int .i64 fn, .int .i64 ex, .slice BB xl bd, .slice WB yl wd, .int .i64 tat, .int .i64 q, .int .u16 v2, .int .u16 tan, .int .u16 tor, .int .i64 tco, .int .i64 le, .bool mo, .int .i64 nx, .slice OB ol od] 28) = W11 := ⟨_, rfl⟩
    have hk11 : Below w10.heap.size w10 W11 := by rw [← hW11]; exact (Below.refl _ _).alloc (Nat.le_refl _) _
    have h11 : WholeV W11 w10.heap.size 28 [.int .i64 fn, .int .i64 ex, .slice BB xl bd, .slice WB yl wd, .int .i64 tat, .int .i64 q, .int .u16 v2, .int .u16 tan, .int .u16 tor, .int .i64 tco, .int .i64 le, .bool mo, .int .i64 nx, .slice OB ol od] := by rw [← hW11]; exact heap_alloc_new w10 _
    have hb11 := hb10.trans (hk11.mono hb10.size)
    have h9 := HA9.out.below hb11 HA9.out.lt
    have hxa := HX9.out.below hb11 HX9.out.lt
    have hrb := (HR9.out.below hb11).more hb11.size
    have HBR : Hid (BRow W11 W11.heap.size BX xl xs) := (HBR9.out.below hb11).more hb11.size
    have HWR : Hid (Row .u16 W11 W11.heap.size WX yl ys) := (HWR9.out.below hb11).more hb11.size
    have HOR : Hid (OL W11 W11.heap.size OX ol os) := HOR9.out.below hb11
    have HE11 : Hid (BRow W11 W11.heap.size BB xl xs) := ((own_row hob).bools.below hk11).more hk11.size
    have HF11 : Hid (Row .u16 W11 W11.heap.size WB yl ys) := ((own_row how).ints.below hk11).more hk11.size
    have HG11 : Hid (OL W11 W11.heap.size OB ol os) := ol_of_own (own2_keep hoo hk11)
    have HB11 := Lib.hid (HB9.out.trans (hb11.mono HB9.out.size))
    have HT := Lib.hid h11
    have HA11 := Lib.hid h9
    have HX11 := Lib.hid hxa
    have HR11 := Lib.hid hrb
    have KS : Hid (∀ X, Below W11.heap.size W11 X → X.cell? ⟨w7.heap.size, 0, none⟩ = some (.int .i64 fn) ∧ X.cell? ⟨w7.heap.size, 1, none⟩ = some (.int .i64 ex) ∧ X.cell? ⟨w7.heap.size, 2, none⟩ = some (.slice BX xl bx) ∧ X.cell? ⟨w7.heap.size, 3, none⟩ = some (.slice WX yl wx) ∧ X.cell? ⟨w7.heap.size, 4, none⟩ = some (.int .i64 tat) ∧ X.cell? ⟨w7.heap.size, 5, none⟩ = some (.int .i64 q) ∧ X.cell? ⟨w7.heap.size, 6, none⟩ = some (.int .u16 v2) ∧ X.cell? ⟨w7.heap.size, 7, none⟩ = some (.int .u16 tan) ∧ X.cell? ⟨w7.heap.size, 8, none⟩ = some (.int .u16 tor) ∧ X.cell? ⟨w7.heap.size, 9, none⟩ = some (.int .i64 tco) ∧ X.cell? ⟨w7.heap.size, 10, none⟩ = some (.int .i64 le) ∧ X.cell? ⟨w7.heap.size, 11, none⟩ = some (.bool mo) ∧ X.cell? ⟨w7.heap.size, 12, none⟩ = some (.int .i64 nx) ∧ X.cell? ⟨w7.heap.size, 13, none⟩ = some (.slice OX ol ox) ∧ X.cell? ⟨w10.heap.size, 0, none⟩ = some (.int .i64 fn) ∧ X.cell? ⟨w10.heap.size, 1, none⟩ = some (.int .i64 ex) ∧ X.cell? ⟨w10.heap.size, 2, none⟩ = some (.slice BB xl bd) ∧ X.cell? ⟨w10.heap.size, 3, none⟩ = some (.slice WB yl wd) ∧ X.cell? ⟨w10.heap.size, 4, none⟩ = some (.int .i64 tat) ∧ X.cell? ⟨w10.heap.size, 5, none⟩ = some (.int .i64 q) ∧ X.cell? ⟨w10.heap.size, 6, none⟩ = some (.int .u16 v2) ∧ X.cell? ⟨w10.heap.size, 7, none⟩ = some (.int .u16 tan) ∧ X.cell? ⟨w10.heap.size, 8, none⟩ = some (.int .u16 tor) ∧ X.cell? ⟨w10.heap.size, 9, none⟩ = some (.int .i64 tco) ∧ X.cell? ⟨w10.heap.size, 10, none⟩ = some (.int .i64 le) ∧ X.cell? ⟨w10.heap.size, 11, none⟩ = some (.bool mo) ∧ X.cell? ⟨w10.heap.size, 12, none⟩ = some (.int .i64 nx) ∧ X.cell? ⟨w10.heap.size, 13, none⟩ = some (.slice OB ol od) ∧ X.cell? ⟨w5.heap.size, 0, none⟩ = some (.int .i64 fn) ∧ X.cell? ⟨C, 0, none⟩ = some (.int .u8 fn) ∧ Below W11.heap.size W11 X) := by
      intro X hX
      have y9 := HA11.out.below hX HA11.out.lt
      have y11 := HT.out.below hX HT.out.lt
      have yx := (HX11.out.below hX HX11.out.lt).cell 0
      have yr := first_cell ((HR11.out.below hX).more hX.size) HE0.out hL3
      exact ⟨y9.cell 0, y9.cell 1, y9.cell 2, y9.cell 3, y9.cell 4, y9.cell 5, y9.cell 6, y9.cell 7, y9.cell 8, y9.cell 9, y9.cell 10, y9.cell 11, y9.cell 12, y9.cell 13, y11.cell 0, y11.cell 1, y11.cell 2, y11.cell 3, y11.cell 4, y11.cell 5, y11.cell 6, y11.cell 7, y11.cell 8, y11.cell 9, y11.cell 10, y11.cell 11, y11.cell 12, y11.cell 13, yx, yr, hX⟩
    have CR : Hid (∀ W, Below W11.heap.size W11 W → Calls Try.prog 9 #[.agg #[.int .i64 fn, .int .i64 ex, .slice BX xl bx, .slice WX yl wx, .int .i64 tat, .int .i64 q, .int .u16 v2, .int .u16 tan, .int .u16 tor, .int .i64 tco, .int .i64 le, .bool mo, .int .i64 nx, .slice OX ol ox]] W fun e w' => e = .returned (.bool true) ∧ Below W11.heap.size W11 w') := fun W hW =>
      (HRI.out W BX bx WX wx OX ox ((HBR.out.below hW).more hW.size) ((HWR.out.below hW).more hW.size) (HOR.out.below hW)).mono fun e w' h => ⟨h.1, hW.trans (h.2.mono hW.size)⟩
    have CS : Hid (∀ W, Below W11.heap.size W11 W → Calls Try.prog 10 #[.agg #[.int .i64 fn, .int .i64 ex, .slice BX xl bx, .slice WX yl wx, .int .i64 tat, .int .i64 q, .int .u16 v2, .int .u16 tan, .int .u16 tor, .int .i64 tco, .int .i64 le, .bool mo, .int .i64 nx, .slice OX ol ox], .agg #[.int .i64 fn, .int .i64 ex, .slice BB xl bd, .slice WB yl wd, .int .i64 tat, .int .i64 q, .int .u16 v2, .int .u16 tan, .int .u16 tor, .int .i64 tco, .int .i64 le, .bool mo, .int .i64 nx, .slice OB ol od]] W fun e w' => e = .returned (.bool true) ∧ Below W11.heap.size W11 w') := fun W hW =>
      (sametell_yes fn ex tat q v2 tan tor tco le mo nx xs ys os xl yl ol BX WX OX BB WB OB bx wx ox bd wd od W ((HBR.out.below hW).more hW.size) ((HE11.out.below hW).more hW.size) ((HWR.out.below hW).more hW.size) ((HF11.out.below hW).more hW.size) (HOR.out.below hW) (HG11.out.below hW) hxl hyl hol).mono fun e w' h => ⟨h.1, hW.trans (h.2.mono hW.size)⟩
    have hl2 : (2 : Int) ≤ (L : Int) := by omega
    have hl3 : (L : Int) ≤ 253 := by omega
    have hl0 : (0 : Int) < (L : Int) := by omega
    have hl0N : 0 < L := by omega
    clear hob how hoo hb10 hk11 h11 hb11 h9 hxa hrb a2 HBR8 HWR8 HOR8 HA8 HX8 HA9 HX9 HBR9 HWR9 HOR9 HR9 HBR HWR HOR HE11 HF11 HG11 hxl hyl hol HPR HY HRI
    go_upto_region 12 with fail
    clear hW11
    go_region_held3 (fun X => X.cell? ⟨w7.heap.size, 0, none⟩ = some (.int .i64 fn) ∧ X.cell? ⟨w7.heap.size, 1, none⟩ = some (.int .i64 ex) ∧ X.cell? ⟨w7.heap.size, 2, none⟩ = some (.slice BX xl bx) ∧ X.cell? ⟨w7.heap.size, 3, none⟩ = some (.slice WX yl wx) ∧ X.cell? ⟨w7.heap.size, 4, none⟩ = some (.int .i64 tat) ∧ X.cell? ⟨w7.heap.size, 5, none⟩ = some (.int .i64 q) ∧ X.cell? ⟨w7.heap.size, 6, none⟩ = some (.int .u16 v2) ∧ X.cell? ⟨w7.heap.size, 7, none⟩ = some (.int .u16 tan) ∧ X.cell? ⟨w7.heap.size, 8, none⟩ = some (.int .u16 tor) ∧ X.cell? ⟨w7.heap.size, 9, none⟩ = some (.int .i64 tco) ∧ X.cell? ⟨w7.heap.size, 10, none⟩ = some (.int .i64 le) ∧ X.cell? ⟨w7.heap.size, 11, none⟩ = some (.bool mo) ∧ X.cell? ⟨w7.heap.size, 12, none⟩ = some (.int .i64 nx) ∧ X.cell? ⟨w7.heap.size, 13, none⟩ = some (.slice OX ol ox) ∧ X.cell? ⟨w10.heap.size, 0, none⟩ = some (.int .i64 fn) ∧ X.cell? ⟨w10.heap.size, 1, none⟩ = some (.int .i64 ex) ∧ X.cell? ⟨w10.heap.size, 2, none⟩ = some (.slice BB xl bd) ∧ X.cell? ⟨w10.heap.size, 3, none⟩ = some (.slice WB yl wd) ∧ X.cell? ⟨w10.heap.size, 4, none⟩ = some (.int .i64 tat) ∧ X.cell? ⟨w10.heap.size, 5, none⟩ = some (.int .i64 q) ∧ X.cell? ⟨w10.heap.size, 6, none⟩ = some (.int .u16 v2) ∧ X.cell? ⟨w10.heap.size, 7, none⟩ = some (.int .u16 tan) ∧ X.cell? ⟨w10.heap.size, 8, none⟩ = some (.int .u16 tor) ∧ X.cell? ⟨w10.heap.size, 9, none⟩ = some (.int .i64 tco) ∧ X.cell? ⟨w10.heap.size, 10, none⟩ = some (.int .i64 le) ∧ X.cell? ⟨w10.heap.size, 11, none⟩ = some (.bool mo) ∧ X.cell? ⟨w10.heap.size, 12, none⟩ = some (.int .i64 nx) ∧ X.cell? ⟨w10.heap.size, 13, none⟩ = some (.slice OB ol od) ∧ X.cell? ⟨w5.heap.size, 0, none⟩ = some (.int .i64 fn) ∧ X.cell? ⟨C, 0, none⟩ = some (.int .u8 fn) ∧ Below W11.heap.size W11 X)
      (first | exact KS.out _ (Below.refl _ _).drew | exact KS.out _ HK12.out | exact KS.out _ HK13.out)
      (first
        | (go_at_call 9
           with_reducible refine (CR.out _ ?_).mono ?_
           · first | assumption | exact (Below.refl _ _).drew
           rintro e w12 ⟨rfl, hb12⟩
           have HK12 := Lib.hid hb12)
        | (go_at_call 10
           with_reducible refine (CS.out _ ?_).mono ?_
           · first | assumption | exact HK12.out
           rintro e w13 ⟨rfl, hb13⟩
           have HK13 := Lib.hid hb13))
    all_goals
      go_wp2
      go_ret
      exact ⟨rfl, HB11.out.trans (HK13.out.mono HB11.out.size)⟩

theorem walk (a0 a1 : Int) (a2 : Option Addr) (len2 cap2 : Nat) (z2 : List Int) (w : World) (w0 : (Lit.int .i64 a0).wf = true) (w1 : (Lit.int .i64 a1).wf = true) (w2 : IsRow .i64 w a2 len2 cap2 z2) :
    Calls Try.prog 4 #[.int .i64 a0, .int .i64 a1, .slice a2 len2 cap2] w fun e w' => e = .returned (.bool true) ∧ Below w.heap.size w w' := by
  have b0 := bounds_i64 w0
  have b1 := bounds_i64 w1
  exact fits_law a0 a1 a2 len2 cap2 _ w w2.row (fun x hx => bounds_i64 (w2.wf x hx)) b0.1 b0.2 b1.1 b1.2

/-! ### THE ROW's STEP: WRITTEN OUT: LEAVE IT -/
set_option maxRecDepth 100000 in
theorem lifted (os : Os) (started : os.Started) (H : Type) (enc : TypeId × Value → H) :
    ReturnsInHanded {} Try.checked os 4 .any (Rows.tellFitsSpec.pre6 enc Try.prog Try.f4 Rows.tellFitsRow.domain false) (Rows.tellFitsSpec.post enc Try.prog Try.f4 false true false false) := by
  refine returnsInHanded_of_change (C := Try.checked) own started (by kernel_rfl) Try.func4
    (ChangeSpec.witness6 (enc := enc) (C := Try.checked) false ⟨#[], #[.int .i64 0, .int .i64 0, .slice none 0 0], []⟩ 8 (by kernel_rfl) (by kernel_rfl) (by kernel_rfl) (by kernel_rfl)) ?_
  intro W base args ds gs before hval0 hW hcnd _
  have hval : ∀ (j : Nat) t v, Try.f4.params[j]? = some t → args[j]? = some v → Value.okWide Try.prog W .any base t v := hval0
  have hW' := hW
  obtain ⟨p, q, hA0, hV, rfl, hfz, hnd⟩ := hW
  have hA : DataW.TrodAll enc Try.prog W 0 (fun _ => true) true Try.f4.params.toList args.toList ds p := hA0
  rw [Try.params4] at hA hval
  obtain ⟨v0, vs0, d0, ds0, p0, q0, hargs, rfl, rfl, h0, r0⟩ := trodAll_cons hA
  obtain ⟨v1, vs1, d1, ds1, p1, q1, rfl, rfl, rfl, h1, r1⟩ := trodAll_cons r0
  obtain ⟨v2, vs2, d2, ds2, p2, q2, rfl, rfl, rfl, h2, r2⟩ := trodAll_cons r1
  obtain ⟨rfl, rfl, rfl⟩ := trodAll_nil r2
  obtain rfl : args = #[v0, v1, v2] := by cases args; simp_all
  obtain ⟨rfl, rfl⟩ := trodVars_none hV
  obtain ⟨a0, rfl, rfl, rfl, w0⟩ := open_int Try.underlying3 (hval 0 3 v0 rfl rfl) h0
  obtain ⟨a1, rfl, rfl, rfl, w1⟩ := open_int Try.underlying3 (hval 1 3 v1 rfl rfl) h1
  obtain ⟨a2, len2, cap2, rfl⟩ := okWide_slice Try.underlying40 (hval 2 40 v2 rfl rfl)
  have k2 := h2
  have lt2 : ∀ x ∈ p2, x.block < W.heap.size := by obtain ⟨m, hm⟩ := k2; exact DataW.trod_lt m _ _ _ hm
  obtain ⟨z2, w2⟩ : ∃ zs, IsRow .i64 W a2 len2 cap2 zs := by
    obtain ⟨fuel, hf⟩ := h2
    rcases open_ints Try.underlying40 Try.underlying3 (by kernel_rfl) hf with ⟨hcs, _⟩ | ⟨x, l, c, zs, hcs, _, hl, hm, hz, _, hcell, hwz⟩
    · simp [Value.cells] at hcs
      obtain ⟨rfl, rfl, rfl⟩ := hcs
      exact ⟨[], .inl ⟨rfl, rfl, rfl, rfl⟩⟩
    · simp [Value.cells] at hcs
      obtain ⟨rfl, rfl, rfl⟩ := hcs
      exact ⟨zs, .inr ⟨_, rfl, hl, hm, by simpa using hz, hcell, hwz⟩⟩
  clear hA0 hval0
  refine (walk a0 a1 a2 len2 cap2 z2 W w0 w1 w2).mono fun e W' ⟨he, bel⟩ => ?_
  subst he
  exact ⟨_, rfl, _, _, _, [], _, [], hW', trodAll_mk1 (shut_bool Try.underlying4 _), (trodAll_cons_mk (shut_int Try.underlying3 w0) (trodAll_cons_mk (shut_int Try.underlying3 w1) (trodAll_cons_mk (Below.trod laidOut (by kernel_rfl) (of_decide_eq_true (by kernel_rfl)) k2 bel lt2) trodAll_mk0))), rfl, bel.frame _, fun h => by cases h⟩

theorem over : Rows.tellFitsRow.holds Try.pinned (OpenSpec.ofChange Rows.tellFitsSpec) :=
  OpenClaim.holds_of_wide 4 Try.f4 rfl rfl rfl rfl rfl rfl rfl ⟨rfl, rfl, rfl, rfl, rfl⟩ rfl rfl rfl rfl rfl (by kernel_rfl) Try.func4 (by kernel_rfl)
    (of_decide_eq_true (by kernel_rfl)) (by unfold Func.isWrapper; first | (rw [if_pos (by decide +kernel)]; kernel_rfl) | (rw [if_neg (by decide +kernel)]; exact ⟨rfl, rfl⟩))
    (fun os started H enc _ => lifted os started H enc)

/-- ████ THE STATEMENT ████ -/
theorem proved : Rows.TellFitsSaid := over
#print axioms proved
end Go.Proofs.Ytielfekkonflfaa.tellFits

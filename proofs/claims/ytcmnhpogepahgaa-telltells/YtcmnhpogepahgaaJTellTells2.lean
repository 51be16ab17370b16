/- Joined: LBoth FewT. -/
import Derived.Test.YtcmnhpogepahgaaJTellTells4
import Derived.Test.YtcmnhpogepahgaaJTellTells3
import Derived.Test.YtcmnhpogepahgaaIden2
namespace Go.Proofs.Ytcmnhpogepahgaa
open Go.ChangeShapes Go.WideShapes Go.ChangeAt Go.RowKit
set_option linter.unusedVariables false
set_option linter.unusedSimpArgs false

/-- What a call makes of a reply, wherever its lists lie: N bytes X, and an error's number. -/
def TB (f : FuncId) (fn ex : Int) (bl wl : Nat) (at_ q v an orr co le : Int) (mo : Bool) (nx : Int) (ol : Nat) (bs : List Bool) (ws : List Int) (os : List Ob) (N : Nat) (X : List Int) (er : Int) : Prop :=
  ∀ (W : World) (BA WA OA : Option Addr) (bc wc oc : Nat), BRow W W.heap.size BA bl bs → Row .u16 W W.heap.size WA wl ws → OL W W.heap.size OA ol os →
    Calls Try.prog f #[.agg #[.int .i64 fn, .int .i64 ex, .slice BA bl bc, .slice WA wl wc, .int .i64 at_, .int .i64 q, .int .u16 v, .int .u16 an, .int .u16 orr, .int .i64 co, .int .i64 le, .bool mo, .int .i64 nx, .slice OA ol oc]] W fun e w' => ∃ C cc, e = .returned (.tuple #[.slice C N cc, .int .i64 er]) ∧ Row .u8 w' w'.heap.size C N X ∧ Below W.heap.size W w'

theorem both_no (fn ex : Int) (bl wl : Nat) (at_ q v an orr co le : Int) (mo : Bool) (nx : Int) (ol : Nat) (bs : List Bool) (ws : List Int) (os : List Ob) (hw : WideT at_ q v an orr co le nx) (hol : ol ≤ 130) (hz : ∀ o ∈ os, o.2.size ≤ 300) (hx : Words ws) (h : ¬ tellP fn ex bl wl at_ q v an orr co le mo.toNat nx ol (decide (fitP os)).toNat) : ∃ N X er, TB 15 fn ex bl wl at_ q v an orr co le mo nx ol bs ws os N X er ∧ TB 16 fn ex bl wl at_ q v an orr co le mo nx ol bs ws os N X er :=
  ⟨0, [], 1, fun W BA WA OA bc wc oc hb hww ho => (pbT_no fn ex bl wl at_ q v an orr co le mo nx ol BA WA OA bc wc oc W _ hw (fits_any OA ol oc os W _ ho (by omega) (fun o h => by have := hz o h; omega) rfl) h).mono fun e w' ⟨he, hbb⟩ => ⟨none, 0, he, Row.nil _ _ _ _, hbb⟩,
    fun W BA WA OA bc wc oc hb hww ho => (rtb_no fn ex bl wl at_ q v an orr co le mo nx ol BA WA OA bc wc oc _ W os hw.v0 ho (by omega) (fun o h => by have := hz o h; omega) rfl h).mono fun e w' ⟨he, hbb⟩ => ⟨none, 0, he, Row.nil _ _ _ _, hbb⟩⟩
theorem both_exc (fn ex : Int) (bl wl : Nat) (at_ q v an orr co le : Int) (mo : Bool) (nx : Int) (ol : Nat) (bs : List Bool) (ws : List Int) (os : List Ob) (hw : WideT at_ q v an orr co le nx) (hol : ol ≤ 130) (hz : ∀ o ∈ os, o.2.size ≤ 300) (hx : Words ws) (hex : ex ≠ 0) (h : tellP fn ex bl wl at_ q v an orr co le mo.toNat nx ol (decide (fitP os)).toNat) : ∃ N X er, TB 15 fn ex bl wl at_ q v an orr co le mo nx ol bs ws os N X er ∧ TB 16 fn ex bl wl at_ q v an orr co le mo nx ol bs ws os N X er :=
  ⟨2, [fn % 128 + 128, ex], 0, fun W BA WA OA bc wc oc hb hww ho => (pbT_exc fn ex bl wl at_ q v an orr co le mo nx ol BA WA OA bc wc oc W _ hw hex h).mono fun e w' ⟨g, he, hW, _, hbb⟩ => ⟨_, _, he, hW.row, hbb⟩,
    fun W BA WA OA bc wc oc hb hww ho => (rtb_exc fn ex bl wl at_ q v an orr co le mo nx ol BA WA OA bc wc oc _ W os hw.v0 ho (by omega) (fun o h => by have := hz o h; omega) rfl hex h).mono fun e w' ⟨g, he, hW, _, hbb⟩ => ⟨_, _, he, hW.row, hbb⟩⟩

theorem both_1 (bl : Nat) (bs : List Bool) (ws : List Int) (os : List Ob) (h : 1 ≤ bl ∧ bl ≤ 2000) : ∃ N X er, TB 15 1 0 bl 0 0 0 0 0 0 0 0 false 0 0 bs ws os N X er ∧ TB 16 1 0 bl 0 0 0 0 0 0 0 0 false 0 0 bs ws os N X er :=
  ⟨2 + nb bl, [1, ((nb bl : Nat) : Int)] ++ pk bs bl, 0, fun W BA WA OA bc wc oc hb hww ho => (pbL_1 bl bs BA WA OA bc wc oc W h hb).mono fun e w' ⟨m, C, cc, he, hm, hown, hbb⟩ => by subst hm; exact ⟨C, cc, he, (own_row hown).ints, hbb⟩,
    fun W BA WA OA bc wc oc hb hww ho => (rtb_1 bl bs BA WA OA bc wc oc W h hb).mono fun e w' ⟨m, C, cc, he, hm, hr, hbb⟩ => by subst hm; exact ⟨C, cc, he, hr, hbb⟩⟩
theorem both_2 (bl : Nat) (bs : List Bool) (ws : List Int) (os : List Ob) (h : 1 ≤ bl ∧ bl ≤ 2000) : ∃ N X er, TB 15 2 0 bl 0 0 0 0 0 0 0 0 false 0 0 bs ws os N X er ∧ TB 16 2 0 bl 0 0 0 0 0 0 0 0 false 0 0 bs ws os N X er :=
  ⟨2 + nb bl, [2, ((nb bl : Nat) : Int)] ++ pk bs bl, 0, fun W BA WA OA bc wc oc hb hww ho => (pbL_2 bl bs BA WA OA bc wc oc W h hb).mono fun e w' ⟨m, C, cc, he, hm, hown, hbb⟩ => by subst hm; exact ⟨C, cc, he, (own_row hown).ints, hbb⟩,
    fun W BA WA OA bc wc oc hb hww ho => (rtb_2 bl bs BA WA OA bc wc oc W h hb).mono fun e w' ⟨m, C, cc, he, hm, hr, hbb⟩ => by subst hm; exact ⟨C, cc, he, hr, hbb⟩⟩
theorem both_3 (wl : Nat) (bs : List Bool) (ws : List Int) (os : List Ob) (hx : Words ws) (h : 1 ≤ wl ∧ wl ≤ 125) : ∃ N X er, TB 15 3 0 0 wl 0 0 0 0 0 0 0 false 0 0 bs ws os N X er ∧ TB 16 3 0 0 wl 0 0 0 0 0 0 0 false 0 0 bs ws os N X er :=
  ⟨2 + 2 * wl, [3, ((2 * wl : Nat) : Int)] ++ flat ws, 0, fun W BA WA OA bc wc oc hb hww ho => (pbL_3 wl ws BA WA OA bc wc oc W h hww hx).mono fun e w' ⟨m, C, cc, he, hm, hown, hbb⟩ => by subst hm; exact ⟨C, cc, he, (own_row hown).ints, hbb⟩,
    fun W BA WA OA bc wc oc hb hww ho => (rtb_3 wl ws BA WA OA bc wc oc W h hww hx).mono fun e w' ⟨m, C, cc, he, hm, hr, hbb⟩ => by subst hm; exact ⟨C, cc, he, hr, hbb⟩⟩
theorem both_4 (wl : Nat) (bs : List Bool) (ws : List Int) (os : List Ob) (hx : Words ws) (h : 1 ≤ wl ∧ wl ≤ 125) : ∃ N X er, TB 15 4 0 0 wl 0 0 0 0 0 0 0 false 0 0 bs ws os N X er ∧ TB 16 4 0 0 wl 0 0 0 0 0 0 0 false 0 0 bs ws os N X er :=
  ⟨2 + 2 * wl, [4, ((2 * wl : Nat) : Int)] ++ flat ws, 0, fun W BA WA OA bc wc oc hb hww ho => (pbL_4 wl ws BA WA OA bc wc oc W h hww hx).mono fun e w' ⟨m, C, cc, he, hm, hown, hbb⟩ => by subst hm; exact ⟨C, cc, he, (own_row hown).ints, hbb⟩,
    fun W BA WA OA bc wc oc hb hww ho => (rtb_4 wl ws BA WA OA bc wc oc W h hww hx).mono fun e w' ⟨m, C, cc, he, hm, hr, hbb⟩ => by subst hm; exact ⟨C, cc, he, hr, hbb⟩⟩
theorem both_23 (wl : Nat) (bs : List Bool) (ws : List Int) (os : List Ob) (hx : Words ws) (h : 1 ≤ wl ∧ wl ≤ 125) : ∃ N X er, TB 15 23 0 0 wl 0 0 0 0 0 0 0 false 0 0 bs ws os N X er ∧ TB 16 23 0 0 wl 0 0 0 0 0 0 0 false 0 0 bs ws os N X er :=
  ⟨2 + 2 * wl, [23, ((2 * wl : Nat) : Int)] ++ flat ws, 0, fun W BA WA OA bc wc oc hb hww ho => (pbL_23 wl ws BA WA OA bc wc oc W h hww hx).mono fun e w' ⟨m, C, cc, he, hm, hown, hbb⟩ => by subst hm; exact ⟨C, cc, he, (own_row hown).ints, hbb⟩,
    fun W BA WA OA bc wc oc hb hww ho => (rtb_23 wl ws BA WA OA bc wc oc W h hww hx).mono fun e w' ⟨m, C, cc, he, hm, hr, hbb⟩ => by subst hm; exact ⟨C, cc, he, hr, hbb⟩⟩
theorem both_5 (at_ q v an orr : Int) (bs : List Bool) (ws : List Int) (os : List Ob) (hw : WideT at_ q v an orr 0 0 0) (h : tellP 5 0 0 0 at_ q v an orr 0 0 0 0 0 1) : ∃ N X er, TB 15 5 0 0 0 at_ q v an orr 0 0 false 0 0 bs ws os N X er ∧ TB 16 5 0 0 0 at_ q v an orr 0 0 false 0 0 bs ws os N X er :=
  ⟨5, [5, at_ / 256, at_ % 256, (v * 65280) / 256, (v * 65280) % 256], 0, fun W BA WA OA bc wc oc hb hww ho => (pbG_5 at_ q v an orr BA WA OA bc wc oc W hw h).mono fun e w' ⟨g, he, hW, _, hbb⟩ => ⟨_, _, he, hW.row, hbb⟩,
    fun W BA WA OA bc wc oc hb hww ho => (rtb_5 at_ q v an orr BA WA OA bc wc oc W hw h).mono fun e w' ⟨C, cap, he, hr, hbb⟩ => ⟨C, cap, he, hr, hbb⟩⟩
theorem both_6 (at_ q v an orr : Int) (bs : List Bool) (ws : List Int) (os : List Ob) (hw : WideT at_ q v an orr 0 0 0) (h : tellP 6 0 0 0 at_ q v an orr 0 0 0 0 0 1) : ∃ N X er, TB 15 6 0 0 0 at_ q v an orr 0 0 false 0 0 bs ws os N X er ∧ TB 16 6 0 0 0 at_ q v an orr 0 0 false 0 0 bs ws os N X er :=
  ⟨5, [6, at_ / 256, at_ % 256, v / 256, v % 256], 0, fun W BA WA OA bc wc oc hb hww ho => (pbG_6 at_ q v an orr BA WA OA bc wc oc W hw h).mono fun e w' ⟨g, he, hW, _, hbb⟩ => ⟨_, _, he, hW.row, hbb⟩,
    fun W BA WA OA bc wc oc hb hww ho => (rtb_6 at_ q v an orr BA WA OA bc wc oc W hw h).mono fun e w' ⟨C, cap, he, hr, hbb⟩ => ⟨C, cap, he, hr, hbb⟩⟩
theorem both_15 (at_ q v an orr : Int) (bs : List Bool) (ws : List Int) (os : List Ob) (hw : WideT at_ q v an orr 0 0 0) (h : tellP 15 0 0 0 at_ q v an orr 0 0 0 0 0 1) : ∃ N X er, TB 15 15 0 0 0 at_ q v an orr 0 0 false 0 0 bs ws os N X er ∧ TB 16 15 0 0 0 at_ q v an orr 0 0 false 0 0 bs ws os N X er :=
  ⟨5, [15, at_ / 256, at_ % 256, q / 256, q % 256], 0, fun W BA WA OA bc wc oc hb hww ho => (pbG_15 at_ q v an orr BA WA OA bc wc oc W hw h).mono fun e w' ⟨g, he, hW, _, hbb⟩ => ⟨_, _, he, hW.row, hbb⟩,
    fun W BA WA OA bc wc oc hb hww ho => (rtb_15 at_ q v an orr BA WA OA bc wc oc W hw h).mono fun e w' ⟨C, cap, he, hr, hbb⟩ => ⟨C, cap, he, hr, hbb⟩⟩
theorem both_16 (at_ q v an orr : Int) (bs : List Bool) (ws : List Int) (os : List Ob) (hw : WideT at_ q v an orr 0 0 0) (h : tellP 16 0 0 0 at_ q v an orr 0 0 0 0 0 1) : ∃ N X er, TB 15 16 0 0 0 at_ q v an orr 0 0 false 0 0 bs ws os N X er ∧ TB 16 16 0 0 0 at_ q v an orr 0 0 false 0 0 bs ws os N X er :=
  ⟨5, [16, at_ / 256, at_ % 256, q / 256, q % 256], 0, fun W BA WA OA bc wc oc hb hww ho => (pbG_16 at_ q v an orr BA WA OA bc wc oc W hw h).mono fun e w' ⟨g, he, hW, _, hbb⟩ => ⟨_, _, he, hW.row, hbb⟩,
    fun W BA WA OA bc wc oc hb hww ho => (rtb_16 at_ q v an orr BA WA OA bc wc oc W hw h).mono fun e w' ⟨C, cap, he, hr, hbb⟩ => ⟨C, cap, he, hr, hbb⟩⟩
theorem both_22 (at_ q v an orr : Int) (bs : List Bool) (ws : List Int) (os : List Ob) (hw : WideT at_ q v an orr 0 0 0) (h : tellP 22 0 0 0 at_ q v an orr 0 0 0 0 0 1) : ∃ N X er, TB 15 22 0 0 0 at_ q v an orr 0 0 false 0 0 bs ws os N X er ∧ TB 16 22 0 0 0 at_ q v an orr 0 0 false 0 0 bs ws os N X er :=
  ⟨7, [22, at_ / 256, at_ % 256, an / 256, an % 256, orr / 256, orr % 256], 0, fun W BA WA OA bc wc oc hb hww ho => (pbG_22 at_ q v an orr BA WA OA bc wc oc W hw h).mono fun e w' ⟨g, he, hW, _, hbb⟩ => ⟨_, _, he, hW.row, hbb⟩,
    fun W BA WA OA bc wc oc hb hww ho => (rtb_22 at_ q v an orr BA WA OA bc wc oc W hw h).mono fun e w' ⟨C, cap, he, hr, hbb⟩ => ⟨C, cap, he, hr, hbb⟩⟩
theorem both_43 (co le nx : Int) (mo : Bool) (ol : Nat) (bs : List Bool) (ws : List Int) (os : List Ob) (hf : fitP os) (hc : 1 ≤ co ∧ co ≤ 4) (hle : 0 ≤ le ∧ le ≤ 255) (hnx : 0 ≤ nx ∧ nx ≤ 255) : ∃ N X er, TB 15 43 0 0 0 0 0 0 0 0 co le mo nx ol bs ws os N X er ∧ TB 16 43 0 0 0 0 0 0 0 0 co le mo nx ol bs ws os N X er :=
  ⟨7 + used os, [43, 14, co, le, (if mo then 255 else 0), nx, (ol : Int)] ++ flatO os, 0, fun W BA WA OA bc wc oc hb hww ho => (pbT_43 co le nx mo _ os BA WA OA bc wc ol oc W rfl ho hf hc hle hnx).mono fun e w' ⟨m, C, cc, he, hm, hown, hbb⟩ => by subst hm; exact ⟨C, cc, he, (own_row hown).ints, hbb⟩,
    fun W BA WA OA bc wc oc hb hww ho => (rtb_43 co le nx mo _ os BA WA OA bc wc ol oc W rfl ho hf hc hle hnx).mono fun e w' ⟨m, C, cc, he, hm, hr, hbb⟩ => by subst hm; exact ⟨C, cc, he, hr, hbb⟩⟩

theorem both_tell (fn ex : Int) (bl wl : Nat) (at_ q v an orr co le : Int) (mo : Bool) (nx : Int) (ol : Nat) (bs : List Bool) (ws : List Int) (os : List Ob) (hw : WideT at_ q v an orr co le nx) (hol : ol ≤ 130) (hz : ∀ o ∈ os, o.2.size ≤ 300) (hx : Words ws) : ∃ N X er, TB 15 fn ex bl wl at_ q v an orr co le mo nx ol bs ws os N X er ∧ TB 16 fn ex bl wl at_ q v an orr co le mo nx ol bs ws os N X er := by
  by_cases hP : tellP fn ex bl wl at_ q v an orr co le mo.toNat nx ol (decide (fitP os)).toNat
  · by_cases hex : ex = 0
    · subst hex
      have hP2 := hP
      obtain ⟨hk, ha, hr, hs⟩ := tell_nought.1 hP
      obtain ⟨r1, r2, r3, r4, r5⟩ := hr
      obtain ⟨s1, s2, s3, s4, s5, s6, s7⟩ := hs
      rcases kinds fn with rfl | rfl | rfl | rfl | rfl | rfl | rfl | rfl | rfl | rfl | rfl | hno
      · obtain rfl : wl = 0 := by omega
        obtain rfl : at_ = 0 := by omega
        obtain rfl : q = 0 := by omega
        obtain rfl : v = 0 := by omega
        obtain rfl : an = 0 := by omega
        obtain rfl : orr = 0 := by omega
        obtain rfl : co = 0 := by omega
        obtain rfl : le = 0 := by omega
        obtain rfl : mo = false := by cases mo; rfl; exact absurd (show true.toNat = 0 by omega) (by decide)
        obtain rfl : nx = 0 := by omega
        obtain rfl : ol = 0 := by omega
        exact both_1 bl bs ws os (by omega)
      · obtain rfl : wl = 0 := by omega
        obtain rfl : at_ = 0 := by omega
        obtain rfl : q = 0 := by omega
        obtain rfl : v = 0 := by omega
        obtain rfl : an = 0 := by omega
        obtain rfl : orr = 0 := by omega
        obtain rfl : co = 0 := by omega
        obtain rfl : le = 0 := by omega
        obtain rfl : mo = false := by cases mo; rfl; exact absurd (show true.toNat = 0 by omega) (by decide)
        obtain rfl : nx = 0 := by omega
        obtain rfl : ol = 0 := by omega
        exact both_2 bl bs ws os (by omega)
      · obtain rfl : bl = 0 := by omega
        obtain rfl : at_ = 0 := by omega
        obtain rfl : q = 0 := by omega
        obtain rfl : v = 0 := by omega
        obtain rfl : an = 0 := by omega
        obtain rfl : orr = 0 := by omega
        obtain rfl : co = 0 := by omega
        obtain rfl : le = 0 := by omega
        obtain rfl : mo = false := by cases mo; rfl; exact absurd (show true.toNat = 0 by omega) (by decide)
        obtain rfl : nx = 0 := by omega
        obtain rfl : ol = 0 := by omega
        exact both_3 wl bs ws os hx (by omega)
      · obtain rfl : bl = 0 := by omega
        obtain rfl : at_ = 0 := by omega
        obtain rfl : q = 0 := by omega
        obtain rfl : v = 0 := by omega
        obtain rfl : an = 0 := by omega
        obtain rfl : orr = 0 := by omega
        obtain rfl : co = 0 := by omega
        obtain rfl : le = 0 := by omega
        obtain rfl : mo = false := by cases mo; rfl; exact absurd (show true.toNat = 0 by omega) (by decide)
        obtain rfl : nx = 0 := by omega
        obtain rfl : ol = 0 := by omega
        exact both_4 wl bs ws os hx (by omega)
      · obtain rfl : bl = 0 := by omega
        obtain rfl : wl = 0 := by omega
        obtain rfl : co = 0 := by omega
        obtain rfl : le = 0 := by omega
        obtain rfl : mo = false := by cases mo; rfl; exact absurd (show true.toNat = 0 by omega) (by decide)
        obtain rfl : nx = 0 := by omega
        obtain rfl : ol = 0 := by omega
        exact both_5 at_ q v an orr bs ws os hw (by
          have h1 := hP2
          first
            | exact h1
            | (refine tell_nought.2 ⟨hk, ha, ⟨r1, r2, r3, r4, .inl (by omega)⟩, ⟨.inr (.inr rfl), .inr (.inr (.inr rfl)), s3, s4, s5, s6, .inr ⟨rfl, rfl, rfl, rfl, rfl⟩⟩⟩))
      · obtain rfl : bl = 0 := by omega
        obtain rfl : wl = 0 := by omega
        obtain rfl : co = 0 := by omega
        obtain rfl : le = 0 := by omega
        obtain rfl : mo = false := by cases mo; rfl; exact absurd (show true.toNat = 0 by omega) (by decide)
        obtain rfl : nx = 0 := by omega
        obtain rfl : ol = 0 := by omega
        exact both_6 at_ q v an orr bs ws os hw (by
          have h1 := hP2
          first
            | exact h1
            | (refine tell_nought.2 ⟨hk, ha, ⟨r1, r2, r3, r4, .inl (by omega)⟩, ⟨.inr (.inr rfl), .inr (.inr (.inr rfl)), s3, s4, s5, s6, .inr ⟨rfl, rfl, rfl, rfl, rfl⟩⟩⟩))
      · obtain rfl : bl = 0 := by omega
        obtain rfl : wl = 0 := by omega
        obtain rfl : co = 0 := by omega
        obtain rfl : le = 0 := by omega
        obtain rfl : mo = false := by cases mo; rfl; exact absurd (show true.toNat = 0 by omega) (by decide)
        obtain rfl : nx = 0 := by omega
        obtain rfl : ol = 0 := by omega
        exact both_15 at_ q v an orr bs ws os hw (by
          have h1 := hP2
          first
            | exact h1
            | (refine tell_nought.2 ⟨hk, ha, ⟨r1, r2, r3, r4, .inl (by omega)⟩, ⟨.inr (.inr rfl), .inr (.inr (.inr rfl)), s3, s4, s5, s6, .inr ⟨rfl, rfl, rfl, rfl, rfl⟩⟩⟩))
      · obtain rfl : bl = 0 := by omega
        obtain rfl : wl = 0 := by omega
        obtain rfl : co = 0 := by omega
        obtain rfl : le = 0 := by omega
        obtain rfl : mo = false := by cases mo; rfl; exact absurd (show true.toNat = 0 by omega) (by decide)
        obtain rfl : nx = 0 := by omega
        obtain rfl : ol = 0 := by omega
        exact both_16 at_ q v an orr bs ws os hw (by
          have h1 := hP2
          first
            | exact h1
            | (refine tell_nought.2 ⟨hk, ha, ⟨r1, r2, r3, r4, .inl (by omega)⟩, ⟨.inr (.inr rfl), .inr (.inr (.inr rfl)), s3, s4, s5, s6, .inr ⟨rfl, rfl, rfl, rfl, rfl⟩⟩⟩))
      · obtain rfl : bl = 0 := by omega
        obtain rfl : wl = 0 := by omega
        obtain rfl : co = 0 := by omega
        obtain rfl : le = 0 := by omega
        obtain rfl : mo = false := by cases mo; rfl; exact absurd (show true.toNat = 0 by omega) (by decide)
        obtain rfl : nx = 0 := by omega
        obtain rfl : ol = 0 := by omega
        exact both_22 at_ q v an orr bs ws os hw (by
          have h1 := hP2
          first
            | exact h1
            | (refine tell_nought.2 ⟨hk, ha, ⟨r1, r2, r3, r4, .inl (by omega)⟩, ⟨.inr (.inr rfl), .inr (.inr (.inr rfl)), s3, s4, s5, s6, .inr ⟨rfl, rfl, rfl, rfl, rfl⟩⟩⟩))
      · obtain rfl : bl = 0 := by omega
        obtain rfl : at_ = 0 := by omega
        obtain rfl : q = 0 := by omega
        obtain rfl : v = 0 := by omega
        obtain rfl : an = 0 := by omega
        obtain rfl : orr = 0 := by omega
        obtain rfl : co = 0 := by omega
        obtain rfl : le = 0 := by omega
        obtain rfl : mo = false := by cases mo; rfl; exact absurd (show true.toNat = 0 by omega) (by decide)
        obtain rfl : nx = 0 := by omega
        obtain rfl : ol = 0 := by omega
        exact both_23 wl bs ws os hx (by omega)
      · obtain rfl : bl = 0 := by omega
        obtain rfl : wl = 0 := by omega
        obtain rfl : at_ = 0 := by omega
        obtain rfl : q = 0 := by omega
        obtain rfl : v = 0 := by omega
        obtain rfl : an = 0 := by omega
        obtain rfl : orr = 0 := by omega
        have hf : fitP os := by
          have h : (decide (fitP os)).toNat = 1 := by omega
          by_cases hf : fitP os
          · exact hf
          · rw [decide_eq_false hf] at h; cases h
        exact both_43 co le nx mo ol bs ws os hf (by omega) (by omega) (by omega)
      · rw [hno.known] at hk
        cases hk
    · exact both_exc fn ex bl wl at_ q v an orr co le mo nx ol bs ws os hw hol hz hx hex hP
  · exact both_no fn ex bl wl at_ q v an orr co le mo nx ol bs ws os hw hol hz hx hP

def few6P (bl wl ol : Nat) (os : List Ob) : Prop := (∀ o ∈ os, o.2.size ≤ 300) ∧ bl ≤ 2100 ∧ wl ≤ 200 ∧ ol ≤ 130

set_option maxRecDepth 100000 in
set_option maxHeartbeats 2000000 in
theorem few6_any (fn ex : Int) (bl wl : Nat) (at_ n v an orr co le : Int) (mo : Bool) (nx : Int) (ol : Nat) (BA WA OA : Option Addr) (bc wc oc : Nat) (os : List Ob) (w : World) (b : Bool) (hl : OL w w.heap.size OA ol os) (hol : ol ≤ maxLen) (hz : ∀ o ∈ os, o.2.size ≤ maxLen) (hb : b = true ↔ few6P bl wl ol os) :
    Calls Try.prog 10 #[.agg #[.int .i64 fn, .int .i64 ex, .slice BA bl bc, .slice WA wl wc, .int .i64 at_, .int .i64 n, .int .u16 v, .int .u16 an, .int .u16 orr, .int .i64 co, .int .i64 le, .bool mo, .int .i64 nx, .slice OA ol oc]] w fun e w' => e = .returned (.bool b) ∧ Below w.heap.size w w' := by
  have hk0 : Below w.heap.size w (w.alloc (.cells #[.int .i64 fn, .int .i64 ex, .slice BA bl bc, .slice WA wl wc, .int .i64 at_, .int .i64 n, .int .u16 v, .int .u16 an, .int .u16 orr, .int .i64 co, .int .i64 le, .bool mo, .int .i64 nx, .slice OA ol oc] 27)) := (Below.refl _ _).alloc (Nat.le_refl _) _
  have HK := Lib.hid hk0
  have HL := Lib.hid (hl.below hk0)
  have HE := Lib.hid hl.len
  have HZ := Lib.hid hz
  have HB := Lib.hid hb
  unfold maxLen at hol
  clear hl hz hb hk0
  go_enter Try.func10, Try.ntmps10
  go_wp2
  go_loop [3] (fun i => ∃ k : Nat, k ≤ ol ∧ i = .int .i64 (k : Int) ∧ Hid (∀ o ∈ os.take k, o.2.size ≤ 300)) (fun i => ol - (intOf i).toNat)
  case atStart => exact ⟨0, by omega, rfl, Lib.hid (fun o ho => by simp at ho)⟩
  case round =>
    obtain ⟨k, hk, rfl, HI⟩ := hrel
    by_cases hlt : k < ol
    · have hi : (k : Int) < (ol : Int) := by omega
      obtain ⟨bA, offA, hAA, hbA, hc1, hc2⟩ := HL.out.at_ k hlt
      subst hAA
      have hkl : k < os.length := by rw [HE.out]; exact hlt
      have hmem : os.getD k ob0 ∈ os := by rw [List.getD_eq_getElem?_getD, List.getElem?_eq_getElem hkl]; exact List.getElem_mem _
      have htk : os.take (k + 1) = os.take k ++ [os.getD k ob0] := by
        rw [List.take_succ_eq_append_getElem hkl]
        simp [List.getD_eq_getElem?_getD, hkl]
      have hzz := HZ.out _ hmem
      have HNO : Hid (300 < (os.getD k ob0).2.size → b = false) := fun h => by
        cases b with
        | false => rfl
        | true => have := (HB.out.1 rfl).1 _ hmem; omega
      obtain ⟨S, hS⟩ : ∃ S, (os.getD k ob0).2 = S := ⟨_, rfl⟩
      obtain ⟨x, hx⟩ : ∃ x, (os.getD k ob0).1 = x := ⟨_, rfl⟩
      have hp : os.getD k ob0 = (x, S) := by rw [← hx, ← hS]
      rw [hS] at hc2 HNO hzz
      rw [hx] at hc1
      rw [hp] at htk
      have HTK := Lib.hid htk
      unfold maxLen at hzz
      clear hS hx hp hmem htk hkl
      by_cases hs : 300 < S.size
      · have hs2 : (300 : Int) < (S.size : Int) := by omega
        have HF := Lib.hid (HNO.out hs)
        go_wp2
        go_ret
        exact ⟨ret_bool HF.out.symm, HK.out⟩
      · have hs2 : ¬ (300 : Int) < (S.size : Int) := by omega
        go_wp2
        go_round
        case rel =>
          refine ⟨k + 1, by omega, by go_num, Lib.hid fun o ho => ?_⟩
          rw [HTK.out] at ho
          rcases List.mem_append.1 ho with ho | ho
          · exact HI.out o ho
          · rw [List.mem_singleton.1 ho]; show S.size ≤ 300; omega
        case measure => simp [intOf]; omega
    · obtain rfl : ol = k := by omega
      have hd : decide (ol < ol) = false := by simp
      have HA : Hid (∀ o ∈ os, o.2.size ≤ 300) := by
        have h := HI.out
        rwa [List.take_of_length_le (by rw [HE.out]; omega)] at h
      by_cases h1 : bl ≤ 2100
      · by_cases h2 : wl ≤ 200
        · by_cases h3 : ol ≤ 130
          · have HF : Hid (b = true) := HB.out.2 ⟨HA.out, h1, h2, h3⟩
            have g1 : (bl : Int) ≤ 2100 := by omega
            have g2 : (wl : Int) ≤ 200 := by omega
            have g3 : (ol : Int) ≤ 130 := by omega
            go_wp2
            go_ret
            exact ⟨ret_bool HF.out.symm, HK.out⟩
          · have HF : Hid (b = false) := by
              cases b with
              | false => rfl
              | true => exact absurd (HB.out.1 rfl).2.2.2 h3
            have g1 : (bl : Int) ≤ 2100 := by omega
            have g2 : (wl : Int) ≤ 200 := by omega
            have g3 : ¬ (ol : Int) ≤ 130 := by omega
            go_wp2
            go_ret
            exact ⟨ret_bool HF.out.symm, HK.out⟩
        · have HF : Hid (b = false) := by
            cases b with
            | false => rfl
            | true => exact absurd (HB.out.1 rfl).2.2.1 h2
          have g1 : (bl : Int) ≤ 2100 := by omega
          have g2 : ¬ (wl : Int) ≤ 200 := by omega
          go_wp2
          go_ret
          exact ⟨ret_bool HF.out.symm, HK.out⟩
      · have HF : Hid (b = false) := by
          cases b with
          | false => rfl
          | true => exact absurd (HB.out.1 rfl).2.1 h1
        have g1 : ¬ (bl : Int) ≤ 2100 := by omega
        go_wp2
        go_ret
        exact ⟨ret_bool HF.out.symm, HK.out⟩

end Go.Proofs.Ytcmnhpogepahgaa

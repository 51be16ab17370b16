/- Joined: Cell9. -/
import Derived.Test.YtielfekkonflfaaJMTellFits6
namespace Go.Proofs.Ytielfekkonflfaa
open Go.ChangeShapes Go.WideShapes Go.ChangeAt Go.RowKit
set_option linter.unusedVariables false
set_option linter.unusedSimpArgs false

/-- A span's three cells, at the head of a block. -/
def SC (w : World) (b : Nat) (t f u : Int) : Prop := b < w.heap.size ∧ w.cell? ⟨b, 0, none⟩ = some (.int .i64 t) ∧ w.cell? ⟨b, 1, none⟩ = some (.int .i64 f) ∧ w.cell? ⟨b, 2, none⟩ = some (.int .i64 u)
theorem SC.off {w w' : World} {b : Nat} {t f u : Int} {S : Nat → Prop} (h : SC w b t f u) (ho : Off S w w') (hS : ¬ S b) : SC w' b t f u :=
  ⟨Nat.lt_of_lt_of_le h.1 ho.size, (ho.cell (p := ⟨b, 0, none⟩) h.1 hS).trans h.2.1, (ho.cell (p := ⟨b, 1, none⟩) h.1 hS).trans h.2.2.1, (ho.cell (p := ⟨b, 2, none⟩) h.1 hS).trans h.2.2.2⟩
theorem SC.below {w w' : World} {b : Nat} {t f u : Int} (h : SC w b t f u) (hb : Below w.heap.size w w') : SC w' b t f u := h.off (S := fun _ => False) (Off.of_below hb) (fun h => h)

set_option maxRecDepth 100000 in
set_option maxHeartbeats 4000000 in
theorem fdo_1 (g N : Nat) (at_ n v an orr : Int) (bl wl : Nat) (ra rn co ob : Int) (BA WA : Option Addr) (bc wc : Nat) (bs : List Bool) (ws : List Int) (w : World) (hF : FileAt w g N) (hN : N ≤ 800000) (hrt : rightP 1 at_ n v an orr bl wl ra rn co ob) (hwd : Wide at_ n v an orr ra rn co ob) (hbr : BRow w w.heap.size BA bl bs) (hwr : Row .u16 w w.heap.size WA wl ws) (hws : Words ws) :
    Calls Try.prog 16 #[.pointer (some ⟨g, 0, none⟩), .agg #[.int .i64 1, .int .i64 at_, .int .i64 n, .int .u16 v, .int .u16 an, .int .u16 orr, .slice BA bl bc, .slice WA wl wc, .int .i64 ra, .int .i64 rn, .int .i64 co, .int .i64 ob]] w (DoB g 1 (n).toNat w) := by
  obtain ⟨hkw, hR, hA⟩ := box2t w 48 28 [.int .i64 1, .int .i64 at_, .int .i64 n, .int .u16 v, .int .u16 an, .int .u16 orr, .slice BA bl bc, .slice WA wl wc, .int .i64 ra, .int .i64 rn, .int .i64 co, .int .i64 ob] [.int .i64 0, .int .i64 0, .slice none 0 0, .slice none 0 0, .int .i64 0, .int .i64 0, .int .u16 0, .int .u16 0, .int .u16 0, .int .i64 0, .int .i64 0, .bool false, .int .i64 0, .slice none 0 0]
  obtain ⟨W, hW⟩ : ∃ W, (w.alloc (.cells #[.int .i64 1, .int .i64 at_, .int .i64 n, .int .u16 v, .int .u16 an, .int .u16 orr, .slice BA bl bc, .slice WA wl wc, .int .i64 ra, .int .i64 rn, .int .i64 co, .int .i64 ob] 48)).alloc (.cells #[.int .i64 0, .int .i64 0, .slice none 0 0, .slice none 0 0, .int .i64 0, .int .i64 0, .int .u16 0, .int .u16 0, .int .u16 0, .int .i64 0, .int .i64 0, .bool false, .int .i64 0, .slice none 0 0] 28) = W := ⟨_, rfl⟩
  rw [show (w.alloc (.cells (List.toArray [.int .i64 1, .int .i64 at_, .int .i64 n, .int .u16 v, .int .u16 an, .int .u16 orr, .slice BA bl bc, .slice WA wl wc, .int .i64 ra, .int .i64 rn, .int .i64 co, .int .i64 ob]) 48)).alloc (.cells (List.toArray [.int .i64 0, .int .i64 0, .slice none 0 0, .slice none 0 0, .int .i64 0, .int .i64 0, .int .u16 0, .int .u16 0, .int .u16 0, .int .i64 0, .int .i64 0, .bool false, .int .i64 0, .slice none 0 0]) 28) = W from hW] at hkw hA hR
  have hgw : g < w.heap.size := hF.lt
  have hsW : w.heap.size + 1 < W.heap.size := hR.lt
  obtain ⟨aa0, aa1, aa2, aa3, aa4, aa5, aa6, aa7, aa8, aa9, aa10, aa11⟩ := cells12 hA
  have HRt := Lib.hid hrt
  have HT1 : Hid (kTab 1 = 0) := rfl
  have HT2 : Hid (kHas 1 = true) := rfl
  have hrt0 := hrt
  obtain ⟨_, _, ⟨a0, a1⟩, ⟨r0, r1⟩, hfit⟩ := hrt0
  unfold fitsP at hfit
  have hm1 : kMostR 1 = 2000 := by decide
  have q0 : 0 ≤ n := by omega
  have q1 : n ≤ 2000 := by omega
  clear hfit hm1
  go_enter Try.func16, Try.ntmps16
  go_wp2_with fail
  refine (rspans_1 at_ n v an orr bl wl ra rn co ob BA WA bc wc W HRt.out).mono ?_
  rintro e w1 ⟨R, nr, rc, S, ns, sc, rfl, hRr, hSr, hb1⟩
  have hk1 := hkw.trans (hb1.mono hkw.size)
  have hA1 := hA.below hb1 hA.lt
  have hR1 := hR.below hb1 hR.lt
  have hF1 := hF.below hk1
  obtain ⟨L, fn_, fc, hFw, hFl, hFn⟩ := hF1
  have hR2' : OneRow w1 R nr (some (0, at_, at_ + n)) := by simpa [spR, kTab] using hRr
  obtain ⟨hnr, rB, rfl, hrg, hrl, s0, s1, s2⟩ := row_ne hFw hR2'
  subst hnr
  have hC1 : SC w1 rB 0 (at_) (at_ + n) := ⟨hrl, s0, s1, s2⟩
  have hns : ns = 0 := by simpa [spW, OneRow] using hSr
  subst hns
  clear hRr hSr hR2' s0 s1 s2 aa0 aa1 aa2 aa3 aa4 aa5 aa6 aa7 aa8 aa9 aa10 aa11
  obtain ⟨aa0, aa1, aa2, aa3, aa4, aa5, aa6, aa7, aa8, aa9, aa10, aa11⟩ := cells12 hA1
  go_wp2_with fail
  refine (right_yes 1 at_ n v an orr bl wl ra rn co ob BA WA bc wc w1 HRt.out).mono ?_
  rintro e w2 ⟨rfl, hb2⟩
  have hk2 := hk1.trans (hb2.mono hk1.size)
  have hA2 := hA1.below hb2 hA1.lt
  have hR2 := hR1.below hb2 hR1.lt
  have hC2 := hC1.below hb2
  obtain ⟨_, y0, y1, y2⟩ := hC2
  clear aa0 aa1 aa2 aa3 aa4 aa5 aa6 aa7 aa8 aa9 aa10 aa11
  obtain ⟨aa0, aa1, aa2, aa3, aa4, aa5, aa6, aa7, aa8, aa9, aa10, aa11⟩ := cells12 hA2
  go_wp2_with fail
  refine (span12_any 0 (at_) (at_ + n) w2).mono ?_
  rintro e w3 ⟨bb, rfl, hb3⟩
  have hC3 := (hC1.below hb2).below hb3
  clear y0 y1 y2
  have hk3 := hk2.trans (hb3.mono hk2.size)
  have hA3 := hA2.below hb3 hA2.lt
  have hR3 := hR2.below hb3 hR2.lt
  have hF3 := hF.below hk3
  clear aa0 aa1 aa2 aa3 aa4 aa5 aa6 aa7 aa8 aa9 aa10 aa11
  obtain ⟨aa0, aa1, aa2, aa3, aa4, aa5, aa6, aa7, aa8, aa9, aa10, aa11⟩ := cells12 hA3
  obtain ⟨rr0, rr1, rr2, rr3, rr4, rr5, rr6, rr7, rr8, rr9, rr10, rr11, rr12, rr13⟩ := cells14 hR3
  obtain ⟨ff0, ff1, ff2, ff3, ff4, ff5, ff6, ff7, ff8, ff9, ff10, ff11, ff12, ff13⟩ := frozen14 hR3
  have hy3 : w.heap.size + 1 < w3.heap.size := hR3.lt
  cases bb
  · clear hC1 hC3
    have HR3 := Lib.hid hR3
    have HK3 := Lib.hid hk3
    clear hA hR hA1 hR1 hA2 hR2 hA3 hR3 hF hFw hFl hFn hF3 hb1 hb2 hb3 hk1 hk2 hk3 hkw hbr hwr hws hwd hrt
    go_wp2_with fail
    exact end14 Try.results16 HR3.out rfl HK3.out (Nat.le_succ _) rfl rfl fun w9 hbb hk => .inl ⟨rfl, Off.of_below hbb⟩
  · have HF3 : Hid (FileAt w3.drew g N) := hF.below hk3.drew
    have HA3 := Lib.hid hA3
    have HR3 := Lib.hid hR3
    have HK3 := Lib.hid hk3
    have HBR := Lib.hid hbr
    have HWR := Lib.hid hwr
    have HWS := Lib.hid hws
    have HWD := Lib.hid hwd
    have HF := Lib.hid hF
    have HC3 := Lib.hid hC3
    clear hC1 hC3
    clear hA hR hA1 hR1 hA2 hR2 hA3 hR3 hF hFw hFl hFn hF3 hb1 hb2 hb3 hk1 hk2 hk3 hkw hbr hwr hws hwd hrt rr0 rr1 rr2 rr3 rr4 rr5 rr6 rr7 rr8 rr9 rr10 rr11 rr12 rr13 ff0 ff1 ff2 ff3 ff4 ff5 ff6 ff7 ff8 ff9 ff10 ff11 ff12 ff13
    go_upto_region 5 with (go_at_call 44; (with_reducible refine (table_lit 1 _ _ _ HT1.out HT2.out).mono ?_); rintro e w' ⟨rfl, rfl⟩)
    go_region_with (first
      | (go_at_call 46
         (with_reducible refine (fget_any g N 0 at_ w3.drew HF3.out (by omega)).mono ?_)
         rintro e w4 ⟨was, rfl, was0, was1, hb4⟩
         have hb4' : Below w3.heap.size w3 w4 := below_from (d := 1) hb4
         have HK4 := Lib.hid (HK3.out.trans (hb4'.mono HK3.out.size))
         have hA4 := HA3.out.below hb4' HA3.out.lt
         obtain ⟨ab0, ab1, ab2, ab3, ab4, ab5, ab6, ab7, ab8, ab9, ab10, ab11⟩ := cells12 hA4
         have HA4 := Lib.hid hA4
         have HR4 := Lib.hid (HR3.out.below hb4' HR3.out.lt)
         have HC4 := Lib.hid (HC3.out.below hb4')
         clear hb4 hb4' hA4)
      | (go_at_call 45
         (with_reducible refine (rcells_1 at_ n v an orr bl wl ra rn co ob BA WA bc wc bs ws was w4 HRt.out HWD.out ((HBR.out.below HK4.out).more HK4.out.size) ((HWR.out.below HK4.out).more HK4.out.size) HWS.out was0 was1).mono ?_)
         rintro e w5 ⟨A5, m5, c5, rfl, hm5, ho5, hb5⟩
         have HK5 := Lib.hid (HK4.out.trans (hb5.mono HK4.out.size))
         have HF5 := Lib.hid (HF.out.below HK5.out)
         have HL5 : Hid (CL w5 g A5 m5) := ho5.cl (Nat.lt_of_lt_of_le hgw HK4.out.size)
         have HA5 := Lib.hid (HA4.out.below hb5 HA4.out.lt)
         have HR5 := Lib.hid (HR4.out.below hb5 HR4.out.lt)
         have HC5 := Lib.hid (HC4.out.below hb5)
         clear hb5 ho5)
      | (go_at_call 13
         (with_reducible refine (fset_any g N A5 m5 c5 w5 HF5.out HL5.out (by omega)).mono ?_)
         rintro e w6 ⟨rfl, hF6, hO6⟩
         have hA6 := hO6.whole HA5.out (by omega)
         have HA6 := Lib.hid hA6
         have HR6 := Lib.hid (hO6.whole HR5.out (by omega))
         obtain ⟨ac0, ac1, ac2, ac3, ac4, ac5, ac6, ac7, ac8, ac9, ac10, ac11⟩ := cells12 hA6
         have HO6 : Hid (Off (fun k => k = g) w w6) := (Off.of_below HK5.out).trans hO6 (fun i hi => .inl hi)
         have HF6 := Lib.hid hF6
         have hz6 : w.heap.size + 1 < w6.heap.size := HR6.out.lt
         have HC6 := Lib.hid (HC5.out.off hO6 hrg)
         have hm5x : N + m5 ≤ 900000 := by omega
         clear hA6 hF6 hO6))
    all_goals
      obtain ⟨cnt, hcn1, hcn2⟩ : ∃ cnt : Nat, n ≤ (cnt : Int) ∧ (cnt : Int) ≤ n := ⟨(n).toNat, by omega, by omega⟩
      have hcm : cnt ≤ 2000 := by omega
      obtain ⟨hCl, z0, z1, z2⟩ := HC6.out
      go_wp2
      go_loopw [10, 11] (fun l i wr => ∃ (k : Nat) (A7 : Option Addr) (c7 : Nat), k ≤ cnt ∧ l = .slice A7 k c7 ∧ i = .int .i64 (at_ + (k : Int)) ∧ Hid (WO wr w6.heap.size (.slice A7 k c7) k) ∧ Hid (Below w6.heap.size w6 wr)) (fun _ i _ => cnt - (intOf i - at_).toNat)
      case atStart => exact ⟨0, none, 0, by omega, rfl, congrArg (Value.int .i64) (by omega), Lib.hid (WO.nil _ _), Lib.hid (Below.refl _ _)⟩
      case round =>
        obtain ⟨k, A7, c7, hkn, rfl, rfl, HO, HB⟩ := hrel
        obtain ⟨hCr, v0, v1, v2⟩ := HC6.out.below HB.out
        by_cases hlt : k < cnt
        · have hlt' : at_ + (k : Int) < at_ + n := by omega
          have hFr := HF6.out.below HB.out
          clear z0 z1 z2 ac0 ac1 ac2 ac3 ac4 ac5 ac6 ac7 ac8 ac9 ac10 ac11
          go_wp2_with fail
          refine (fget_any g (N + m5) 0 (at_ + (k : Int)) wr hFr (by omega)).mono ?_
          rintro e w8 ⟨x, rfl, x0, x1, hb8⟩
          have HB8 := Lib.hid (HB.out.trans (hb8.mono HB.out.size))
          have HO8 := Lib.hid (HO.out.keep hb8)
          clear hb8 hFr
          have hk3 : k ≤ 3000 := by omega
          go_wp2_with (first
            | (at_builtin; (with_reducible show wpList Try.prog _ _ ((⟨some 90, _, _, _, _, _⟩ : Oper) :: _) _ _); refine wpList_append_word (o := ⟨some 90, _, _, _, _, _⟩) rfl _ _ rfl w6.heap.size (.slice A7 k c7) k rfl (HO8.out.keep ((Below.refl _ _).alloc (Nat.le_refl _) _)) w8.heap.size x rfl (row_one w8 x 25) x0 x1 (by omega) (Nat.le_trans HB8.out.size (by simp)) ?_
               intro A9 c9 w9 hown9 hg9
               have HO9 := Lib.hid hown9
               have HB9 := Lib.hid (below_wo (HB8.out.alloc HB8.out.size _) (HO8.out.keep ((Below.refl _ w8).alloc (Nat.le_refl _) _)) hg9 (Nat.le_trans HB8.out.size (by simp)))
               clear hown9 hg9))
          go_roundw
          case rel => first | exact ⟨k + 1, A9, c9, by omega, rfl, congrArg (Value.int .i64) (by omega), HO9, HB9⟩ | (repeat apply Exists.intro; exact ⟨⟨k + 1, A9, c9, by omega, rfl, congrArg (Value.int .i64) (by omega), HO9, HB9⟩, rfl⟩) | (trace_state; sorry)
          case measure => simp [intOf]; omega
        · have hge : ¬ at_ + (k : Int) < at_ + n := by omega
          obtain rfl : k = cnt := by omega
          have hA8 := HA6.out.below HB.out HA6.out.lt
          clear z0 z1 z2 ac0 ac1 ac2 ac3 ac4 ac5 ac6 ac7 ac8 ac9 ac10 ac11
          obtain ⟨ac0, ac1, ac2, ac3, ac4, ac5, ac6, ac7, ac8, ac9, ac10, ac11⟩ := cells12 hA8
          obtain ⟨zs, hzw, hzl, hzo⟩ := HO.out
          go_wp2_with fail
          refine (shown_b 1 at_ n v an orr bl wl ra rn co ob BA WA bc wc A7 k c7 zs wr (by omega) (own_row hzo).ints hzw (by omega)).mono ?_
          rintro e w7 ⟨WA7, wc7, bs7, rfl, hbl7, hown7, hb7⟩
          have hR7 := (HR6.out.below HB.out HR6.out.lt).below hb7 (HR6.out.below HB.out HR6.out.lt).lt
          obtain ⟨rr0, rr1, rr2, rr3, rr4, rr5, rr6, rr7, rr8, rr9, rr10, rr11, rr12, rr13⟩ := cells14 hR7
          obtain ⟨ff0, ff1, ff2, ff3, ff4, ff5, ff6, ff7, ff8, ff9, ff10, ff11, ff12, ff13⟩ := frozen14 hR7
          have HR7 := Lib.hid hR7
          have HO7 := Lib.hid ((HO6.out.then HB.out).then hb7)
          have HW7 := Lib.hid hown7
          have hz7 : w.heap.size + 1 < w7.heap.size := hR7.lt
          have hzr : w.heap.size + 1 < wr.heap.size := Nat.lt_of_lt_of_le hz6 HB.out.size
          have hZW := Lib.hid hzw
          have hZL := Lib.hid hzl
          clear hR7 hb7 hown7 hzo hA8 hzw hzl
          go_wp2_with fail
          exact end14 Try.results16 HR7.out rfl (Below.refl (w.heap.size) w7) (Nat.le_succ _) rfl rfl fun w9 hbb hk => .inr (by rw [show (n).toNat = k by omega]; exact ⟨WA7, wc7, bs7, rfl, hbl7, (own_row (own_blk HW7.out hk hzr)).bools, HO7.out.thenB hbb (Nat.le_refl _)⟩)

set_option maxRecDepth 100000 in
set_option maxHeartbeats 4000000 in
theorem fdo_2 (g N : Nat) (at_ n v an orr : Int) (bl wl : Nat) (ra rn co ob : Int) (BA WA : Option Addr) (bc wc : Nat) (bs : List Bool) (ws : List Int) (w : World) (hF : FileAt w g N) (hN : N ≤ 800000) (hrt : rightP 2 at_ n v an orr bl wl ra rn co ob) (hwd : Wide at_ n v an orr ra rn co ob) (hbr : BRow w w.heap.size BA bl bs) (hwr : Row .u16 w w.heap.size WA wl ws) (hws : Words ws) :
    Calls Try.prog 16 #[.pointer (some ⟨g, 0, none⟩), .agg #[.int .i64 2, .int .i64 at_, .int .i64 n, .int .u16 v, .int .u16 an, .int .u16 orr, .slice BA bl bc, .slice WA wl wc, .int .i64 ra, .int .i64 rn, .int .i64 co, .int .i64 ob]] w (DoB g 2 (n).toNat w) := by
  obtain ⟨hkw, hR, hA⟩ := box2t w 48 28 [.int .i64 2, .int .i64 at_, .int .i64 n, .int .u16 v, .int .u16 an, .int .u16 orr, .slice BA bl bc, .slice WA wl wc, .int .i64 ra, .int .i64 rn, .int .i64 co, .int .i64 ob] [.int .i64 0, .int .i64 0, .slice none 0 0, .slice none 0 0, .int .i64 0, .int .i64 0, .int .u16 0, .int .u16 0, .int .u16 0, .int .i64 0, .int .i64 0, .bool false, .int .i64 0, .slice none 0 0]
  obtain ⟨W, hW⟩ : ∃ W, (w.alloc (.cells #[.int .i64 2, .int .i64 at_, .int .i64 n, .int .u16 v, .int .u16 an, .int .u16 orr, .slice BA bl bc, .slice WA wl wc, .int .i64 ra, .int .i64 rn, .int .i64 co, .int .i64 ob] 48)).alloc (.cells #[.int .i64 0, .int .i64 0, .slice none 0 0, .slice none 0 0, .int .i64 0, .int .i64 0, .int .u16 0, .int .u16 0, .int .u16 0, .int .i64 0, .int .i64 0, .bool false, .int .i64 0, .slice none 0 0] 28) = W := ⟨_, rfl⟩
  rw [show (w.alloc (.cells (List.toArray [.int .i64 2, .int .i64 at_, .int .i64 n, .int .u16 v, .int .u16 an, .int .u16 orr, .slice BA bl bc, .slice WA wl wc, .int .i64 ra, .int .i64 rn, .int .i64 co, .int .i64 ob]) 48)).alloc (.cells (List.toArray [.int .i64 0, .int .i64 0, .slice none 0 0, .slice none 0 0, .int .i64 0, .int .i64 0, .int .u16 0, .int .u16 0, .int .u16 0, .int .i64 0, .int .i64 0, .bool false, .int .i64 0, .slice none 0 0]) 28) = W from hW] at hkw hA hR
  have hgw : g < w.heap.size := hF.lt
  have hsW : w.heap.size + 1 < W.heap.size := hR.lt
  obtain ⟨aa0, aa1, aa2, aa3, aa4, aa5, aa6, aa7, aa8, aa9, aa10, aa11⟩ := cells12 hA
  have HRt := Lib.hid hrt
  have HT1 : Hid (kTab 2 = 1) := rfl
  have HT2 : Hid (kHas 2 = true) := rfl
  have hrt0 := hrt
  obtain ⟨_, _, ⟨a0, a1⟩, ⟨r0, r1⟩, hfit⟩ := hrt0
  unfold fitsP at hfit
  have hm1 : kMostR 2 = 2000 := by decide
  have q0 : 0 ≤ n := by omega
  have q1 : n ≤ 2000 := by omega
  clear hfit hm1
  go_enter Try.func16, Try.ntmps16
  go_wp2_with fail
  refine (rspans_2 at_ n v an orr bl wl ra rn co ob BA WA bc wc W HRt.out).mono ?_
  rintro e w1 ⟨R, nr, rc, S, ns, sc, rfl, hRr, hSr, hb1⟩
  have hk1 := hkw.trans (hb1.mono hkw.size)
  have hA1 := hA.below hb1 hA.lt
  have hR1 := hR.below hb1 hR.lt
  have hF1 := hF.below hk1
  obtain ⟨L, fn_, fc, hFw, hFl, hFn⟩ := hF1
  have hR2' : OneRow w1 R nr (some (1, at_, at_ + n)) := by simpa [spR, kTab] using hRr
  obtain ⟨hnr, rB, rfl, hrg, hrl, s0, s1, s2⟩ := row_ne hFw hR2'
  subst hnr
  have hC1 : SC w1 rB 1 (at_) (at_ + n) := ⟨hrl, s0, s1, s2⟩
  have hns : ns = 0 := by simpa [spW, OneRow] using hSr
  subst hns
  clear hRr hSr hR2' s0 s1 s2 aa0 aa1 aa2 aa3 aa4 aa5 aa6 aa7 aa8 aa9 aa10 aa11
  obtain ⟨aa0, aa1, aa2, aa3, aa4, aa5, aa6, aa7, aa8, aa9, aa10, aa11⟩ := cells12 hA1
  go_wp2_with fail
  refine (right_yes 2 at_ n v an orr bl wl ra rn co ob BA WA bc wc w1 HRt.out).mono ?_
  rintro e w2 ⟨rfl, hb2⟩
  have hk2 := hk1.trans (hb2.mono hk1.size)
  have hA2 := hA1.below hb2 hA1.lt
  have hR2 := hR1.below hb2 hR1.lt
  have hC2 := hC1.below hb2
  obtain ⟨_, y0, y1, y2⟩ := hC2
  clear aa0 aa1 aa2 aa3 aa4 aa5 aa6 aa7 aa8 aa9 aa10 aa11
  obtain ⟨aa0, aa1, aa2, aa3, aa4, aa5, aa6, aa7, aa8, aa9, aa10, aa11⟩ := cells12 hA2
  go_wp2_with fail
  refine (span12_any 1 (at_) (at_ + n) w2).mono ?_
  rintro e w3 ⟨bb, rfl, hb3⟩
  have hC3 := (hC1.below hb2).below hb3
  clear y0 y1 y2
  have hk3 := hk2.trans (hb3.mono hk2.size)
  have hA3 := hA2.below hb3 hA2.lt
  have hR3 := hR2.below hb3 hR2.lt
  have hF3 := hF.below hk3
  clear aa0 aa1 aa2 aa3 aa4 aa5 aa6 aa7 aa8 aa9 aa10 aa11
  obtain ⟨aa0, aa1, aa2, aa3, aa4, aa5, aa6, aa7, aa8, aa9, aa10, aa11⟩ := cells12 hA3
  obtain ⟨rr0, rr1, rr2, rr3, rr4, rr5, rr6, rr7, rr8, rr9, rr10, rr11, rr12, rr13⟩ := cells14 hR3
  obtain ⟨ff0, ff1, ff2, ff3, ff4, ff5, ff6, ff7, ff8, ff9, ff10, ff11, ff12, ff13⟩ := frozen14 hR3
  have hy3 : w.heap.size + 1 < w3.heap.size := hR3.lt
  cases bb
  · clear hC1 hC3
    have HR3 := Lib.hid hR3
    have HK3 := Lib.hid hk3
    clear hA hR hA1 hR1 hA2 hR2 hA3 hR3 hF hFw hFl hFn hF3 hb1 hb2 hb3 hk1 hk2 hk3 hkw hbr hwr hws hwd hrt
    go_wp2_with fail
    exact end14 Try.results16 HR3.out rfl HK3.out (Nat.le_succ _) rfl rfl fun w9 hbb hk => .inl ⟨rfl, Off.of_below hbb⟩
  · have HF3 : Hid (FileAt w3.drew g N) := hF.below hk3.drew
    have HA3 := Lib.hid hA3
    have HR3 := Lib.hid hR3
    have HK3 := Lib.hid hk3
    have HBR := Lib.hid hbr
    have HWR := Lib.hid hwr
    have HWS := Lib.hid hws
    have HWD := Lib.hid hwd
    have HF := Lib.hid hF
    have HC3 := Lib.hid hC3
    clear hC1 hC3
    clear hA hR hA1 hR1 hA2 hR2 hA3 hR3 hF hFw hFl hFn hF3 hb1 hb2 hb3 hk1 hk2 hk3 hkw hbr hwr hws hwd hrt rr0 rr1 rr2 rr3 rr4 rr5 rr6 rr7 rr8 rr9 rr10 rr11 rr12 rr13 ff0 ff1 ff2 ff3 ff4 ff5 ff6 ff7 ff8 ff9 ff10 ff11 ff12 ff13
    go_upto_region 5 with (go_at_call 44; (with_reducible refine (table_lit 2 _ _ _ HT1.out HT2.out).mono ?_); rintro e w' ⟨rfl, rfl⟩)
    go_region_with (first
      | (go_at_call 46
         (with_reducible refine (fget_any g N 1 at_ w3.drew HF3.out (by omega)).mono ?_)
         rintro e w4 ⟨was, rfl, was0, was1, hb4⟩
         have hb4' : Below w3.heap.size w3 w4 := below_from (d := 1) hb4
         have HK4 := Lib.hid (HK3.out.trans (hb4'.mono HK3.out.size))
         have hA4 := HA3.out.below hb4' HA3.out.lt
         obtain ⟨ab0, ab1, ab2, ab3, ab4, ab5, ab6, ab7, ab8, ab9, ab10, ab11⟩ := cells12 hA4
         have HA4 := Lib.hid hA4
         have HR4 := Lib.hid (HR3.out.below hb4' HR3.out.lt)
         have HC4 := Lib.hid (HC3.out.below hb4')
         clear hb4 hb4' hA4)
      | (go_at_call 45
         (with_reducible refine (rcells_2 at_ n v an orr bl wl ra rn co ob BA WA bc wc bs ws was w4 HRt.out HWD.out ((HBR.out.below HK4.out).more HK4.out.size) ((HWR.out.below HK4.out).more HK4.out.size) HWS.out was0 was1).mono ?_)
         rintro e w5 ⟨A5, m5, c5, rfl, hm5, ho5, hb5⟩
         have HK5 := Lib.hid (HK4.out.trans (hb5.mono HK4.out.size))
         have HF5 := Lib.hid (HF.out.below HK5.out)
         have HL5 : Hid (CL w5 g A5 m5) := ho5.cl (Nat.lt_of_lt_of_le hgw HK4.out.size)
         have HA5 := Lib.hid (HA4.out.below hb5 HA4.out.lt)
         have HR5 := Lib.hid (HR4.out.below hb5 HR4.out.lt)
         have HC5 := Lib.hid (HC4.out.below hb5)
         clear hb5 ho5)
      | (go_at_call 13
         (with_reducible refine (fset_any g N A5 m5 c5 w5 HF5.out HL5.out (by omega)).mono ?_)
         rintro e w6 ⟨rfl, hF6, hO6⟩
         have hA6 := hO6.whole HA5.out (by omega)
         have HA6 := Lib.hid hA6
         have HR6 := Lib.hid (hO6.whole HR5.out (by omega))
         obtain ⟨ac0, ac1, ac2, ac3, ac4, ac5, ac6, ac7, ac8, ac9, ac10, ac11⟩ := cells12 hA6
         have HO6 : Hid (Off (fun k => k = g) w w6) := (Off.of_below HK5.out).trans hO6 (fun i hi => .inl hi)
         have HF6 := Lib.hid hF6
         have hz6 : w.heap.size + 1 < w6.heap.size := HR6.out.lt
         have HC6 := Lib.hid (HC5.out.off hO6 hrg)
         have hm5x : N + m5 ≤ 900000 := by omega
         clear hA6 hF6 hO6))
    all_goals
      obtain ⟨cnt, hcn1, hcn2⟩ : ∃ cnt : Nat, n ≤ (cnt : Int) ∧ (cnt : Int) ≤ n := ⟨(n).toNat, by omega, by omega⟩
      have hcm : cnt ≤ 2000 := by omega
      obtain ⟨hCl, z0, z1, z2⟩ := HC6.out
      go_wp2
      go_loopw [10, 11] (fun l i wr => ∃ (k : Nat) (A7 : Option Addr) (c7 : Nat), k ≤ cnt ∧ l = .slice A7 k c7 ∧ i = .int .i64 (at_ + (k : Int)) ∧ Hid (WO wr w6.heap.size (.slice A7 k c7) k) ∧ Hid (Below w6.heap.size w6 wr)) (fun _ i _ => cnt - (intOf i - at_).toNat)
      case atStart => exact ⟨0, none, 0, by omega, rfl, congrArg (Value.int .i64) (by omega), Lib.hid (WO.nil _ _), Lib.hid (Below.refl _ _)⟩
      case round =>
        obtain ⟨k, A7, c7, hkn, rfl, rfl, HO, HB⟩ := hrel
        obtain ⟨hCr, v0, v1, v2⟩ := HC6.out.below HB.out
        by_cases hlt : k < cnt
        · have hlt' : at_ + (k : Int) < at_ + n := by omega
          have hFr := HF6.out.below HB.out
          clear z0 z1 z2 ac0 ac1 ac2 ac3 ac4 ac5 ac6 ac7 ac8 ac9 ac10 ac11
          go_wp2_with fail
          refine (fget_any g (N + m5) 1 (at_ + (k : Int)) wr hFr (by omega)).mono ?_
          rintro e w8 ⟨x, rfl, x0, x1, hb8⟩
          have HB8 := Lib.hid (HB.out.trans (hb8.mono HB.out.size))
          have HO8 := Lib.hid (HO.out.keep hb8)
          clear hb8 hFr
          have hk3 : k ≤ 3000 := by omega
          go_wp2_with (first
            | (at_builtin; (with_reducible show wpList Try.prog _ _ ((⟨some 90, _, _, _, _, _⟩ : Oper) :: _) _ _); refine wpList_append_word (o := ⟨some 90, _, _, _, _, _⟩) rfl _ _ rfl w6.heap.size (.slice A7 k c7) k rfl (HO8.out.keep ((Below.refl _ _).alloc (Nat.le_refl _) _)) w8.heap.size x rfl (row_one w8 x 25) x0 x1 (by omega) (Nat.le_trans HB8.out.size (by simp)) ?_
               intro A9 c9 w9 hown9 hg9
               have HO9 := Lib.hid hown9
               have HB9 := Lib.hid (below_wo (HB8.out.alloc HB8.out.size _) (HO8.out.keep ((Below.refl _ w8).alloc (Nat.le_refl _) _)) hg9 (Nat.le_trans HB8.out.size (by simp)))
               clear hown9 hg9))
          go_roundw
          case rel => first | exact ⟨k + 1, A9, c9, by omega, rfl, congrArg (Value.int .i64) (by omega), HO9, HB9⟩ | (repeat apply Exists.intro; exact ⟨⟨k + 1, A9, c9, by omega, rfl, congrArg (Value.int .i64) (by omega), HO9, HB9⟩, rfl⟩) | (trace_state; sorry)
          case measure => simp [intOf]; omega
        · have hge : ¬ at_ + (k : Int) < at_ + n := by omega
          obtain rfl : k = cnt := by omega
          have hA8 := HA6.out.below HB.out HA6.out.lt
          clear z0 z1 z2 ac0 ac1 ac2 ac3 ac4 ac5 ac6 ac7 ac8 ac9 ac10 ac11
          obtain ⟨ac0, ac1, ac2, ac3, ac4, ac5, ac6, ac7, ac8, ac9, ac10, ac11⟩ := cells12 hA8
          obtain ⟨zs, hzw, hzl, hzo⟩ := HO.out
          go_wp2_with fail
          refine (shown_b 2 at_ n v an orr bl wl ra rn co ob BA WA bc wc A7 k c7 zs wr (by omega) (own_row hzo).ints hzw (by omega)).mono ?_
          rintro e w7 ⟨WA7, wc7, bs7, rfl, hbl7, hown7, hb7⟩
          have hR7 := (HR6.out.below HB.out HR6.out.lt).below hb7 (HR6.out.below HB.out HR6.out.lt).lt
          obtain ⟨rr0, rr1, rr2, rr3, rr4, rr5, rr6, rr7, rr8, rr9, rr10, rr11, rr12, rr13⟩ := cells14 hR7
          obtain ⟨ff0, ff1, ff2, ff3, ff4, ff5, ff6, ff7, ff8, ff9, ff10, ff11, ff12, ff13⟩ := frozen14 hR7
          have HR7 := Lib.hid hR7
          have HO7 := Lib.hid ((HO6.out.then HB.out).then hb7)
          have HW7 := Lib.hid hown7
          have hz7 : w.heap.size + 1 < w7.heap.size := hR7.lt
          have hzr : w.heap.size + 1 < wr.heap.size := Nat.lt_of_lt_of_le hz6 HB.out.size
          have hZW := Lib.hid hzw
          have hZL := Lib.hid hzl
          clear hR7 hb7 hown7 hzo hA8 hzw hzl
          go_wp2_with fail
          exact end14 Try.results16 HR7.out rfl (Below.refl (w.heap.size) w7) (Nat.le_succ _) rfl rfl fun w9 hbb hk => .inr (by rw [show (n).toNat = k by omega]; exact ⟨WA7, wc7, bs7, rfl, hbl7, (own_row (own_blk HW7.out hk hzr)).bools, HO7.out.thenB hbb (Nat.le_refl _)⟩)

set_option maxRecDepth 100000 in
set_option maxHeartbeats 4000000 in
theorem fdo_3 (g N : Nat) (at_ n v an orr : Int) (bl wl : Nat) (ra rn co ob : Int) (BA WA : Option Addr) (bc wc : Nat) (bs : List Bool) (ws : List Int) (w : World) (hF : FileAt w g N) (hN : N ≤ 800000) (hrt : rightP 3 at_ n v an orr bl wl ra rn co ob) (hwd : Wide at_ n v an orr ra rn co ob) (hbr : BRow w w.heap.size BA bl bs) (hwr : Row .u16 w w.heap.size WA wl ws) (hws : Words ws) :
    Calls Try.prog 16 #[.pointer (some ⟨g, 0, none⟩), .agg #[.int .i64 3, .int .i64 at_, .int .i64 n, .int .u16 v, .int .u16 an, .int .u16 orr, .slice BA bl bc, .slice WA wl wc, .int .i64 ra, .int .i64 rn, .int .i64 co, .int .i64 ob]] w (DoW g 3 (n).toNat w) := by
  obtain ⟨hkw, hR, hA⟩ := box2t w 48 28 [.int .i64 3, .int .i64 at_, .int .i64 n, .int .u16 v, .int .u16 an, .int .u16 orr, .slice BA bl bc, .slice WA wl wc, .int .i64 ra, .int .i64 rn, .int .i64 co, .int .i64 ob] [.int .i64 0, .int .i64 0, .slice none 0 0, .slice none 0 0, .int .i64 0, .int .i64 0, .int .u16 0, .int .u16 0, .int .u16 0, .int .i64 0, .int .i64 0, .bool false, .int .i64 0, .slice none 0 0]
  obtain ⟨W, hW⟩ : ∃ W, (w.alloc (.cells #[.int .i64 3, .int .i64 at_, .int .i64 n, .int .u16 v, .int .u16 an, .int .u16 orr, .slice BA bl bc, .slice WA wl wc, .int .i64 ra, .int .i64 rn, .int .i64 co, .int .i64 ob] 48)).alloc (.cells #[.int .i64 0, .int .i64 0, .slice none 0 0, .slice none 0 0, .int .i64 0, .int .i64 0, .int .u16 0, .int .u16 0, .int .u16 0, .int .i64 0, .int .i64 0, .bool false, .int .i64 0, .slice none 0 0] 28) = W := ⟨_, rfl⟩
  rw [show (w.alloc (.cells (List.toArray [.int .i64 3, .int .i64 at_, .int .i64 n, .int .u16 v, .int .u16 an, .int .u16 orr, .slice BA bl bc, .slice WA wl wc, .int .i64 ra, .int .i64 rn, .int .i64 co, .int .i64 ob]) 48)).alloc (.cells (List.toArray [.int .i64 0, .int .i64 0, .slice none 0 0, .slice none 0 0, .int .i64 0, .int .i64 0, .int .u16 0, .int .u16 0, .int .u16 0, .int .i64 0, .int .i64 0, .bool false, .int .i64 0, .slice none 0 0]) 28) = W from hW] at hkw hA hR
  have hgw : g < w.heap.size := hF.lt
  have hsW : w.heap.size + 1 < W.heap.size := hR.lt
  obtain ⟨aa0, aa1, aa2, aa3, aa4, aa5, aa6, aa7, aa8, aa9, aa10, aa11⟩ := cells12 hA
  have HRt := Lib.hid hrt
  have HT1 : Hid (kTab 3 = 2) := rfl
  have HT2 : Hid (kHas 3 = true) := rfl
  have hrt0 := hrt
  obtain ⟨_, _, ⟨a0, a1⟩, ⟨r0, r1⟩, hfit⟩ := hrt0
  unfold fitsP at hfit
  have hm1 : kMostR 3 = 125 := by decide
  have q0 : 0 ≤ n := by omega
  have q1 : n ≤ 2000 := by omega
  clear hfit hm1
  go_enter Try.func16, Try.ntmps16
  go_wp2_with fail
  refine (rspans_3 at_ n v an orr bl wl ra rn co ob BA WA bc wc W HRt.out).mono ?_
  rintro e w1 ⟨R, nr, rc, S, ns, sc, rfl, hRr, hSr, hb1⟩
  have hk1 := hkw.trans (hb1.mono hkw.size)
  have hA1 := hA.below hb1 hA.lt
  have hR1 := hR.below hb1 hR.lt
  have hF1 := hF.below hk1
  obtain ⟨L, fn_, fc, hFw, hFl, hFn⟩ := hF1
  have hR2' : OneRow w1 R nr (some (2, at_, at_ + n)) := by simpa [spR, kTab] using hRr
  obtain ⟨hnr, rB, rfl, hrg, hrl, s0, s1, s2⟩ := row_ne hFw hR2'
  subst hnr
  have hC1 : SC w1 rB 2 (at_) (at_ + n) := ⟨hrl, s0, s1, s2⟩
  have hns : ns = 0 := by simpa [spW, OneRow] using hSr
  subst hns
  clear hRr hSr hR2' s0 s1 s2 aa0 aa1 aa2 aa3 aa4 aa5 aa6 aa7 aa8 aa9 aa10 aa11
  obtain ⟨aa0, aa1, aa2, aa3, aa4, aa5, aa6, aa7, aa8, aa9, aa10, aa11⟩ := cells12 hA1
  go_wp2_with fail
  refine (right_yes 3 at_ n v an orr bl wl ra rn co ob BA WA bc wc w1 HRt.out).mono ?_
  rintro e w2 ⟨rfl, hb2⟩
  have hk2 := hk1.trans (hb2.mono hk1.size)
  have hA2 := hA1.below hb2 hA1.lt
  have hR2 := hR1.below hb2 hR1.lt
  have hC2 := hC1.below hb2
  obtain ⟨_, y0, y1, y2⟩ := hC2
  clear aa0 aa1 aa2 aa3 aa4 aa5 aa6 aa7 aa8 aa9 aa10 aa11
  obtain ⟨aa0, aa1, aa2, aa3, aa4, aa5, aa6, aa7, aa8, aa9, aa10, aa11⟩ := cells12 hA2
  go_wp2_with fail
  refine (span12_any 2 (at_) (at_ + n) w2).mono ?_
  rintro e w3 ⟨bb, rfl, hb3⟩
  have hC3 := (hC1.below hb2).below hb3
  clear y0 y1 y2
  have hk3 := hk2.trans (hb3.mono hk2.size)
  have hA3 := hA2.below hb3 hA2.lt
  have hR3 := hR2.below hb3 hR2.lt
  have hF3 := hF.below hk3
  clear aa0 aa1 aa2 aa3 aa4 aa5 aa6 aa7 aa8 aa9 aa10 aa11
  obtain ⟨aa0, aa1, aa2, aa3, aa4, aa5, aa6, aa7, aa8, aa9, aa10, aa11⟩ := cells12 hA3
  obtain ⟨rr0, rr1, rr2, rr3, rr4, rr5, rr6, rr7, rr8, rr9, rr10, rr11, rr12, rr13⟩ := cells14 hR3
  obtain ⟨ff0, ff1, ff2, ff3, ff4, ff5, ff6, ff7, ff8, ff9, ff10, ff11, ff12, ff13⟩ := frozen14 hR3
  have hy3 : w.heap.size + 1 < w3.heap.size := hR3.lt
  cases bb
  · clear hC1 hC3
    have HR3 := Lib.hid hR3
    have HK3 := Lib.hid hk3
    clear hA hR hA1 hR1 hA2 hR2 hA3 hR3 hF hFw hFl hFn hF3 hb1 hb2 hb3 hk1 hk2 hk3 hkw hbr hwr hws hwd hrt
    go_wp2_with fail
    exact end14 Try.results16 HR3.out rfl HK3.out (Nat.le_succ _) rfl rfl fun w9 hbb hk => .inl ⟨rfl, Off.of_below hbb⟩
  · have HF3 : Hid (FileAt w3.drew g N) := hF.below hk3.drew
    have HA3 := Lib.hid hA3
    have HR3 := Lib.hid hR3
    have HK3 := Lib.hid hk3
    have HBR := Lib.hid hbr
    have HWR := Lib.hid hwr
    have HWS := Lib.hid hws
    have HWD := Lib.hid hwd
    have HF := Lib.hid hF
    have HC3 := Lib.hid hC3
    clear hC1 hC3
    clear hA hR hA1 hR1 hA2 hR2 hA3 hR3 hF hFw hFl hFn hF3 hb1 hb2 hb3 hk1 hk2 hk3 hkw hbr hwr hws hwd hrt rr0 rr1 rr2 rr3 rr4 rr5 rr6 rr7 rr8 rr9 rr10 rr11 rr12 rr13 ff0 ff1 ff2 ff3 ff4 ff5 ff6 ff7 ff8 ff9 ff10 ff11 ff12 ff13
    go_upto_region 5 with (go_at_call 44; (with_reducible refine (table_lit 3 _ _ _ HT1.out HT2.out).mono ?_); rintro e w' ⟨rfl, rfl⟩)
    go_region_with (first
      | (go_at_call 46
         (with_reducible refine (fget_any g N 2 at_ w3.drew HF3.out (by omega)).mono ?_)
         rintro e w4 ⟨was, rfl, was0, was1, hb4⟩
         have hb4' : Below w3.heap.size w3 w4 := below_from (d := 1) hb4
         have HK4 := Lib.hid (HK3.out.trans (hb4'.mono HK3.out.size))
         have hA4 := HA3.out.below hb4' HA3.out.lt
         obtain ⟨ab0, ab1, ab2, ab3, ab4, ab5, ab6, ab7, ab8, ab9, ab10, ab11⟩ := cells12 hA4
         have HA4 := Lib.hid hA4
         have HR4 := Lib.hid (HR3.out.below hb4' HR3.out.lt)
         have HC4 := Lib.hid (HC3.out.below hb4')
         clear hb4 hb4' hA4)
      | (go_at_call 45
         (with_reducible refine (rcells_3 at_ n v an orr bl wl ra rn co ob BA WA bc wc bs ws was w4 HRt.out HWD.out ((HBR.out.below HK4.out).more HK4.out.size) ((HWR.out.below HK4.out).more HK4.out.size) HWS.out was0 was1).mono ?_)
         rintro e w5 ⟨A5, m5, c5, rfl, hm5, ho5, hb5⟩
         have HK5 := Lib.hid (HK4.out.trans (hb5.mono HK4.out.size))
         have HF5 := Lib.hid (HF.out.below HK5.out)
         have HL5 : Hid (CL w5 g A5 m5) := ho5.cl (Nat.lt_of_lt_of_le hgw HK4.out.size)
         have HA5 := Lib.hid (HA4.out.below hb5 HA4.out.lt)
         have HR5 := Lib.hid (HR4.out.below hb5 HR4.out.lt)
         have HC5 := Lib.hid (HC4.out.below hb5)
         clear hb5 ho5)
      | (go_at_call 13
         (with_reducible refine (fset_any g N A5 m5 c5 w5 HF5.out HL5.out (by omega)).mono ?_)
         rintro e w6 ⟨rfl, hF6, hO6⟩
         have hA6 := hO6.whole HA5.out (by omega)
         have HA6 := Lib.hid hA6
         have HR6 := Lib.hid (hO6.whole HR5.out (by omega))
         obtain ⟨ac0, ac1, ac2, ac3, ac4, ac5, ac6, ac7, ac8, ac9, ac10, ac11⟩ := cells12 hA6
         have HO6 : Hid (Off (fun k => k = g) w w6) := (Off.of_below HK5.out).trans hO6 (fun i hi => .inl hi)
         have HF6 := Lib.hid hF6
         have hz6 : w.heap.size + 1 < w6.heap.size := HR6.out.lt
         have HC6 := Lib.hid (HC5.out.off hO6 hrg)
         have hm5x : N + m5 ≤ 900000 := by omega
         clear hA6 hF6 hO6))
    all_goals
      obtain ⟨cnt, hcn1, hcn2⟩ : ∃ cnt : Nat, n ≤ (cnt : Int) ∧ (cnt : Int) ≤ n := ⟨(n).toNat, by omega, by omega⟩
      have hcm : cnt ≤ 2000 := by omega
      obtain ⟨hCl, z0, z1, z2⟩ := HC6.out
      go_wp2
      go_loopw [10, 11] (fun l i wr => ∃ (k : Nat) (A7 : Option Addr) (c7 : Nat), k ≤ cnt ∧ l = .slice A7 k c7 ∧ i = .int .i64 (at_ + (k : Int)) ∧ Hid (WO wr w6.heap.size (.slice A7 k c7) k) ∧ Hid (Below w6.heap.size w6 wr)) (fun _ i _ => cnt - (intOf i - at_).toNat)
      case atStart => exact ⟨0, none, 0, by omega, rfl, congrArg (Value.int .i64) (by omega), Lib.hid (WO.nil _ _), Lib.hid (Below.refl _ _)⟩
      case round =>
        obtain ⟨k, A7, c7, hkn, rfl, rfl, HO, HB⟩ := hrel
        obtain ⟨hCr, v0, v1, v2⟩ := HC6.out.below HB.out
        by_cases hlt : k < cnt
        · have hlt' : at_ + (k : Int) < at_ + n := by omega
          have hFr := HF6.out.below HB.out
          clear z0 z1 z2 ac0 ac1 ac2 ac3 ac4 ac5 ac6 ac7 ac8 ac9 ac10 ac11
          go_wp2_with fail
          refine (fget_any g (N + m5) 2 (at_ + (k : Int)) wr hFr (by omega)).mono ?_
          rintro e w8 ⟨x, rfl, x0, x1, hb8⟩
          have HB8 := Lib.hid (HB.out.trans (hb8.mono HB.out.size))
          have HO8 := Lib.hid (HO.out.keep hb8)
          clear hb8 hFr
          have hk3 : k ≤ 3000 := by omega
          go_wp2_with (first
            | (at_builtin; (with_reducible show wpList Try.prog _ _ ((⟨some 90, _, _, _, _, _⟩ : Oper) :: _) _ _); refine wpList_append_word (o := ⟨some 90, _, _, _, _, _⟩) rfl _ _ rfl w6.heap.size (.slice A7 k c7) k rfl (HO8.out.keep ((Below.refl _ _).alloc (Nat.le_refl _) _)) w8.heap.size x rfl (row_one w8 x 25) x0 x1 (by omega) (Nat.le_trans HB8.out.size (by simp)) ?_
               intro A9 c9 w9 hown9 hg9
               have HO9 := Lib.hid hown9
               have HB9 := Lib.hid (below_wo (HB8.out.alloc HB8.out.size _) (HO8.out.keep ((Below.refl _ w8).alloc (Nat.le_refl _) _)) hg9 (Nat.le_trans HB8.out.size (by simp)))
               clear hown9 hg9))
          go_roundw
          case rel => first | exact ⟨k + 1, A9, c9, by omega, rfl, congrArg (Value.int .i64) (by omega), HO9, HB9⟩ | (repeat apply Exists.intro; exact ⟨⟨k + 1, A9, c9, by omega, rfl, congrArg (Value.int .i64) (by omega), HO9, HB9⟩, rfl⟩) | (trace_state; sorry)
          case measure => simp [intOf]; omega
        · have hge : ¬ at_ + (k : Int) < at_ + n := by omega
          obtain rfl : k = cnt := by omega
          have hA8 := HA6.out.below HB.out HA6.out.lt
          clear z0 z1 z2 ac0 ac1 ac2 ac3 ac4 ac5 ac6 ac7 ac8 ac9 ac10 ac11
          obtain ⟨ac0, ac1, ac2, ac3, ac4, ac5, ac6, ac7, ac8, ac9, ac10, ac11⟩ := cells12 hA8
          obtain ⟨zs, hzw, hzl, hzo⟩ := HO.out
          go_wp2_with fail
          refine (shown_w 3 at_ n v an orr bl wl ra rn co ob BA WA bc wc A7 k c7 zs wr (by omega) (by omega) (own_row hzo).ints (by omega)).mono ?_
          rintro e w7 ⟨WA7, wc7, rfl, hown7, hb7⟩
          have hR7 := (HR6.out.below HB.out HR6.out.lt).below hb7 (HR6.out.below HB.out HR6.out.lt).lt
          obtain ⟨rr0, rr1, rr2, rr3, rr4, rr5, rr6, rr7, rr8, rr9, rr10, rr11, rr12, rr13⟩ := cells14 hR7
          obtain ⟨ff0, ff1, ff2, ff3, ff4, ff5, ff6, ff7, ff8, ff9, ff10, ff11, ff12, ff13⟩ := frozen14 hR7
          have HR7 := Lib.hid hR7
          have HO7 := Lib.hid ((HO6.out.then HB.out).then hb7)
          have HW7 := Lib.hid hown7
          have hz7 : w.heap.size + 1 < w7.heap.size := hR7.lt
          have hzr : w.heap.size + 1 < wr.heap.size := Nat.lt_of_lt_of_le hz6 HB.out.size
          have hZW := Lib.hid hzw
          have hZL := Lib.hid hzl
          clear hR7 hb7 hown7 hzo hA8 hzw hzl
          go_wp2_with fail
          exact end14 Try.results16 HR7.out rfl (Below.refl (w.heap.size) w7) (Nat.le_succ _) rfl rfl fun w9 hbb hk => .inr (by rw [show (n).toNat = k by omega]; exact ⟨WA7, wc7, zs, rfl, hZW.out, hZL.out, (own_row (own_blk HW7.out hk hzr)).ints, HO7.out.thenB hbb (Nat.le_refl _)⟩)

set_option maxRecDepth 100000 in
set_option maxHeartbeats 4000000 in
theorem fdo_4 (g N : Nat) (at_ n v an orr : Int) (bl wl : Nat) (ra rn co ob : Int) (BA WA : Option Addr) (bc wc : Nat) (bs : List Bool) (ws : List Int) (w : World) (hF : FileAt w g N) (hN : N ≤ 800000) (hrt : rightP 4 at_ n v an orr bl wl ra rn co ob) (hwd : Wide at_ n v an orr ra rn co ob) (hbr : BRow w w.heap.size BA bl bs) (hwr : Row .u16 w w.heap.size WA wl ws) (hws : Words ws) :
    Calls Try.prog 16 #[.pointer (some ⟨g, 0, none⟩), .agg #[.int .i64 4, .int .i64 at_, .int .i64 n, .int .u16 v, .int .u16 an, .int .u16 orr, .slice BA bl bc, .slice WA wl wc, .int .i64 ra, .int .i64 rn, .int .i64 co, .int .i64 ob]] w (DoW g 4 (n).toNat w) := by
  obtain ⟨hkw, hR, hA⟩ := box2t w 48 28 [.int .i64 4, .int .i64 at_, .int .i64 n, .int .u16 v, .int .u16 an, .int .u16 orr, .slice BA bl bc, .slice WA wl wc, .int .i64 ra, .int .i64 rn, .int .i64 co, .int .i64 ob] [.int .i64 0, .int .i64 0, .slice none 0 0, .slice none 0 0, .int .i64 0, .int .i64 0, .int .u16 0, .int .u16 0, .int .u16 0, .int .i64 0, .int .i64 0, .bool false, .int .i64 0, .slice none 0 0]
  obtain ⟨W, hW⟩ : ∃ W, (w.alloc (.cells #[.int .i64 4, .int .i64 at_, .int .i64 n, .int .u16 v, .int .u16 an, .int .u16 orr, .slice BA bl bc, .slice WA wl wc, .int .i64 ra, .int .i64 rn, .int .i64 co, .int .i64 ob] 48)).alloc (.cells #[.int .i64 0, .int .i64 0, .slice none 0 0, .slice none 0 0, .int .i64 0, .int .i64 0, .int .u16 0, .int .u16 0, .int .u16 0, .int .i64 0, .int .i64 0, .bool false, .int .i64 0, .slice none 0 0] 28) = W := ⟨_, rfl⟩
  rw [show (w.alloc (.cells (List.toArray [.int .i64 4, .int .i64 at_, .int .i64 n, .int .u16 v, .int .u16 an, .int .u16 orr, .slice BA bl bc, .slice WA wl wc, .int .i64 ra, .int .i64 rn, .int .i64 co, .int .i64 ob]) 48)).alloc (.cells (List.toArray [.int .i64 0, .int .i64 0, .slice none 0 0, .slice none 0 0, .int .i64 0, .int .i64 0, .int .u16 0, .int .u16 0, .int .u16 0, .int .i64 0, .int .i64 0, .bool false, .int .i64 0, .slice none 0 0]) 28) = W from hW] at hkw hA hR
  have hgw : g < w.heap.size := hF.lt
  have hsW : w.heap.size + 1 < W.heap.size := hR.lt
  obtain ⟨aa0, aa1, aa2, aa3, aa4, aa5, aa6, aa7, aa8, aa9, aa10, aa11⟩ := cells12 hA
  have HRt := Lib.hid hrt
  have HT1 : Hid (kTab 4 = 3) := rfl
  have HT2 : Hid (kHas 4 = true) := rfl
  have hrt0 := hrt
  obtain ⟨_, _, ⟨a0, a1⟩, ⟨r0, r1⟩, hfit⟩ := hrt0
  unfold fitsP at hfit
  have hm1 : kMostR 4 = 125 := by decide
  have q0 : 0 ≤ n := by omega
  have q1 : n ≤ 2000 := by omega
  clear hfit hm1
  go_enter Try.func16, Try.ntmps16
  go_wp2_with fail
  refine (rspans_4 at_ n v an orr bl wl ra rn co ob BA WA bc wc W HRt.out).mono ?_
  rintro e w1 ⟨R, nr, rc, S, ns, sc, rfl, hRr, hSr, hb1⟩
  have hk1 := hkw.trans (hb1.mono hkw.size)
  have hA1 := hA.below hb1 hA.lt
  have hR1 := hR.below hb1 hR.lt
  have hF1 := hF.below hk1
  obtain ⟨L, fn_, fc, hFw, hFl, hFn⟩ := hF1
  have hR2' : OneRow w1 R nr (some (3, at_, at_ + n)) := by simpa [spR, kTab] using hRr
  obtain ⟨hnr, rB, rfl, hrg, hrl, s0, s1, s2⟩ := row_ne hFw hR2'
  subst hnr
  have hC1 : SC w1 rB 3 (at_) (at_ + n) := ⟨hrl, s0, s1, s2⟩
  have hns : ns = 0 := by simpa [spW, OneRow] using hSr
  subst hns
  clear hRr hSr hR2' s0 s1 s2 aa0 aa1 aa2 aa3 aa4 aa5 aa6 aa7 aa8 aa9 aa10 aa11
  obtain ⟨aa0, aa1, aa2, aa3, aa4, aa5, aa6, aa7, aa8, aa9, aa10, aa11⟩ := cells12 hA1
  go_wp2_with fail
  refine (right_yes 4 at_ n v an orr bl wl ra rn co ob BA WA bc wc w1 HRt.out).mono ?_
  rintro e w2 ⟨rfl, hb2⟩
  have hk2 := hk1.trans (hb2.mono hk1.size)
  have hA2 := hA1.below hb2 hA1.lt
  have hR2 := hR1.below hb2 hR1.lt
  have hC2 := hC1.below hb2
  obtain ⟨_, y0, y1, y2⟩ := hC2
  clear aa0 aa1 aa2 aa3 aa4 aa5 aa6 aa7 aa8 aa9 aa10 aa11
  obtain ⟨aa0, aa1, aa2, aa3, aa4, aa5, aa6, aa7, aa8, aa9, aa10, aa11⟩ := cells12 hA2
  go_wp2_with fail
  refine (span12_any 3 (at_) (at_ + n) w2).mono ?_
  rintro e w3 ⟨bb, rfl, hb3⟩
  have hC3 := (hC1.below hb2).below hb3
  clear y0 y1 y2
  have hk3 := hk2.trans (hb3.mono hk2.size)
  have hA3 := hA2.below hb3 hA2.lt
  have hR3 := hR2.below hb3 hR2.lt
  have hF3 := hF.below hk3
  clear aa0 aa1 aa2 aa3 aa4 aa5 aa6 aa7 aa8 aa9 aa10 aa11
  obtain ⟨aa0, aa1, aa2, aa3, aa4, aa5, aa6, aa7, aa8, aa9, aa10, aa11⟩ := cells12 hA3
  obtain ⟨rr0, rr1, rr2, rr3, rr4, rr5, rr6, rr7, rr8, rr9, rr10, rr11, rr12, rr13⟩ := cells14 hR3
  obtain ⟨ff0, ff1, ff2, ff3, ff4, ff5, ff6, ff7, ff8, ff9, ff10, ff11, ff12, ff13⟩ := frozen14 hR3
  have hy3 : w.heap.size + 1 < w3.heap.size := hR3.lt
  cases bb
  · clear hC1 hC3
    have HR3 := Lib.hid hR3
    have HK3 := Lib.hid hk3
    clear hA hR hA1 hR1 hA2 hR2 hA3 hR3 hF hFw hFl hFn hF3 hb1 hb2 hb3 hk1 hk2 hk3 hkw hbr hwr hws hwd hrt
    go_wp2_with fail
    exact end14 Try.results16 HR3.out rfl HK3.out (Nat.le_succ _) rfl rfl fun w9 hbb hk => .inl ⟨rfl, Off.of_below hbb⟩
  · have HF3 : Hid (FileAt w3.drew g N) := hF.below hk3.drew
    have HA3 := Lib.hid hA3
    have HR3 := Lib.hid hR3
    have HK3 := Lib.hid hk3
    have HBR := Lib.hid hbr
    have HWR := Lib.hid hwr
    have HWS := Lib.hid hws
    have HWD := Lib.hid hwd
    have HF := Lib.hid hF
    have HC3 := Lib.hid hC3
    clear hC1 hC3
    clear hA hR hA1 hR1 hA2 hR2 hA3 hR3 hF hFw hFl hFn hF3 hb1 hb2 hb3 hk1 hk2 hk3 hkw hbr hwr hws hwd hrt rr0 rr1 rr2 rr3 rr4 rr5 rr6 rr7 rr8 rr9 rr10 rr11 rr12 rr13 ff0 ff1 ff2 ff3 ff4 ff5 ff6 ff7 ff8 ff9 ff10 ff11 ff12 ff13
    go_upto_region 5 with (go_at_call 44; (with_reducible refine (table_lit 4 _ _ _ HT1.out HT2.out).mono ?_); rintro e w' ⟨rfl, rfl⟩)
    go_region_with (first
      | (go_at_call 46
         (with_reducible refine (fget_any g N 3 at_ w3.drew HF3.out (by omega)).mono ?_)
         rintro e w4 ⟨was, rfl, was0, was1, hb4⟩
         have hb4' : Below w3.heap.size w3 w4 := below_from (d := 1) hb4
         have HK4 := Lib.hid (HK3.out.trans (hb4'.mono HK3.out.size))
         have hA4 := HA3.out.below hb4' HA3.out.lt
         obtain ⟨ab0, ab1, ab2, ab3, ab4, ab5, ab6, ab7, ab8, ab9, ab10, ab11⟩ := cells12 hA4
         have HA4 := Lib.hid hA4
         have HR4 := Lib.hid (HR3.out.below hb4' HR3.out.lt)
         have HC4 := Lib.hid (HC3.out.below hb4')
         clear hb4 hb4' hA4)
      | (go_at_call 45
         (with_reducible refine (rcells_4 at_ n v an orr bl wl ra rn co ob BA WA bc wc bs ws was w4 HRt.out HWD.out ((HBR.out.below HK4.out).more HK4.out.size) ((HWR.out.below HK4.out).more HK4.out.size) HWS.out was0 was1).mono ?_)
         rintro e w5 ⟨A5, m5, c5, rfl, hm5, ho5, hb5⟩
         have HK5 := Lib.hid (HK4.out.trans (hb5.mono HK4.out.size))
         have HF5 := Lib.hid (HF.out.below HK5.out)
         have HL5 : Hid (CL w5 g A5 m5) := ho5.cl (Nat.lt_of_lt_of_le hgw HK4.out.size)
         have HA5 := Lib.hid (HA4.out.below hb5 HA4.out.lt)
         have HR5 := Lib.hid (HR4.out.below hb5 HR4.out.lt)
         have HC5 := Lib.hid (HC4.out.below hb5)
         clear hb5 ho5)
      | (go_at_call 13
         (with_reducible refine (fset_any g N A5 m5 c5 w5 HF5.out HL5.out (by omega)).mono ?_)
         rintro e w6 ⟨rfl, hF6, hO6⟩
         have hA6 := hO6.whole HA5.out (by omega)
         have HA6 := Lib.hid hA6
         have HR6 := Lib.hid (hO6.whole HR5.out (by omega))
         obtain ⟨ac0, ac1, ac2, ac3, ac4, ac5, ac6, ac7, ac8, ac9, ac10, ac11⟩ := cells12 hA6
         have HO6 : Hid (Off (fun k => k = g) w w6) := (Off.of_below HK5.out).trans hO6 (fun i hi => .inl hi)
         have HF6 := Lib.hid hF6
         have hz6 : w.heap.size + 1 < w6.heap.size := HR6.out.lt
         have HC6 := Lib.hid (HC5.out.off hO6 hrg)
         have hm5x : N + m5 ≤ 900000 := by omega
         clear hA6 hF6 hO6))
    all_goals
      obtain ⟨cnt, hcn1, hcn2⟩ : ∃ cnt : Nat, n ≤ (cnt : Int) ∧ (cnt : Int) ≤ n := ⟨(n).toNat, by omega, by omega⟩
      have hcm : cnt ≤ 2000 := by omega
      obtain ⟨hCl, z0, z1, z2⟩ := HC6.out
      go_wp2
      go_loopw [10, 11] (fun l i wr => ∃ (k : Nat) (A7 : Option Addr) (c7 : Nat), k ≤ cnt ∧ l = .slice A7 k c7 ∧ i = .int .i64 (at_ + (k : Int)) ∧ Hid (WO wr w6.heap.size (.slice A7 k c7) k) ∧ Hid (Below w6.heap.size w6 wr)) (fun _ i _ => cnt - (intOf i - at_).toNat)
      case atStart => exact ⟨0, none, 0, by omega, rfl, congrArg (Value.int .i64) (by omega), Lib.hid (WO.nil _ _), Lib.hid (Below.refl _ _)⟩
      case round =>
        obtain ⟨k, A7, c7, hkn, rfl, rfl, HO, HB⟩ := hrel
        obtain ⟨hCr, v0, v1, v2⟩ := HC6.out.below HB.out
        by_cases hlt : k < cnt
        · have hlt' : at_ + (k : Int) < at_ + n := by omega
          have hFr := HF6.out.below HB.out
          clear z0 z1 z2 ac0 ac1 ac2 ac3 ac4 ac5 ac6 ac7 ac8 ac9 ac10 ac11
          go_wp2_with fail
          refine (fget_any g (N + m5) 3 (at_ + (k : Int)) wr hFr (by omega)).mono ?_
          rintro e w8 ⟨x, rfl, x0, x1, hb8⟩
          have HB8 := Lib.hid (HB.out.trans (hb8.mono HB.out.size))
          have HO8 := Lib.hid (HO.out.keep hb8)
          clear hb8 hFr
          have hk3 : k ≤ 3000 := by omega
          go_wp2_with (first
            | (at_builtin; (with_reducible show wpList Try.prog _ _ ((⟨some 90, _, _, _, _, _⟩ : Oper) :: _) _ _); refine wpList_append_word (o := ⟨some 90, _, _, _, _, _⟩) rfl _ _ rfl w6.heap.size (.slice A7 k c7) k rfl (HO8.out.keep ((Below.refl _ _).alloc (Nat.le_refl _) _)) w8.heap.size x rfl (row_one w8 x 25) x0 x1 (by omega) (Nat.le_trans HB8.out.size (by simp)) ?_
               intro A9 c9 w9 hown9 hg9
               have HO9 := Lib.hid hown9
               have HB9 := Lib.hid (below_wo (HB8.out.alloc HB8.out.size _) (HO8.out.keep ((Below.refl _ w8).alloc (Nat.le_refl _) _)) hg9 (Nat.le_trans HB8.out.size (by simp)))
               clear hown9 hg9))
          go_roundw
          case rel => first | exact ⟨k + 1, A9, c9, by omega, rfl, congrArg (Value.int .i64) (by omega), HO9, HB9⟩ | (repeat apply Exists.intro; exact ⟨⟨k + 1, A9, c9, by omega, rfl, congrArg (Value.int .i64) (by omega), HO9, HB9⟩, rfl⟩) | (trace_state; sorry)
          case measure => simp [intOf]; omega
        · have hge : ¬ at_ + (k : Int) < at_ + n := by omega
          obtain rfl : k = cnt := by omega
          have hA8 := HA6.out.below HB.out HA6.out.lt
          clear z0 z1 z2 ac0 ac1 ac2 ac3 ac4 ac5 ac6 ac7 ac8 ac9 ac10 ac11
          obtain ⟨ac0, ac1, ac2, ac3, ac4, ac5, ac6, ac7, ac8, ac9, ac10, ac11⟩ := cells12 hA8
          obtain ⟨zs, hzw, hzl, hzo⟩ := HO.out
          go_wp2_with fail
          refine (shown_w 4 at_ n v an orr bl wl ra rn co ob BA WA bc wc A7 k c7 zs wr (by omega) (by omega) (own_row hzo).ints (by omega)).mono ?_
          rintro e w7 ⟨WA7, wc7, rfl, hown7, hb7⟩
          have hR7 := (HR6.out.below HB.out HR6.out.lt).below hb7 (HR6.out.below HB.out HR6.out.lt).lt
          obtain ⟨rr0, rr1, rr2, rr3, rr4, rr5, rr6, rr7, rr8, rr9, rr10, rr11, rr12, rr13⟩ := cells14 hR7
          obtain ⟨ff0, ff1, ff2, ff3, ff4, ff5, ff6, ff7, ff8, ff9, ff10, ff11, ff12, ff13⟩ := frozen14 hR7
          have HR7 := Lib.hid hR7
          have HO7 := Lib.hid ((HO6.out.then HB.out).then hb7)
          have HW7 := Lib.hid hown7
          have hz7 : w.heap.size + 1 < w7.heap.size := hR7.lt
          have hzr : w.heap.size + 1 < wr.heap.size := Nat.lt_of_lt_of_le hz6 HB.out.size
          have hZW := Lib.hid hzw
          have hZL := Lib.hid hzl
          clear hR7 hb7 hown7 hzo hA8 hzw hzl
          go_wp2_with fail
          exact end14 Try.results16 HR7.out rfl (Below.refl (w.heap.size) w7) (Nat.le_succ _) rfl rfl fun w9 hbb hk => .inr (by rw [show (n).toNat = k by omega]; exact ⟨WA7, wc7, zs, rfl, hZW.out, hZL.out, (own_row (own_blk HW7.out hk hzr)).ints, HO7.out.thenB hbb (Nat.le_refl _)⟩)

set_option maxRecDepth 100000 in
set_option maxHeartbeats 4000000 in
theorem fdo_23 (g N : Nat) (at_ n v an orr : Int) (bl wl : Nat) (ra rn co ob : Int) (BA WA : Option Addr) (bc wc : Nat) (bs : List Bool) (ws : List Int) (w : World) (hF : FileAt w g N) (hN : N ≤ 800000) (hrt : rightP 23 at_ n v an orr bl wl ra rn co ob) (hwd : Wide at_ n v an orr ra rn co ob) (hbr : BRow w w.heap.size BA bl bs) (hwr : Row .u16 w w.heap.size WA wl ws) (hws : Words ws) :
    Calls Try.prog 16 #[.pointer (some ⟨g, 0, none⟩), .agg #[.int .i64 23, .int .i64 at_, .int .i64 n, .int .u16 v, .int .u16 an, .int .u16 orr, .slice BA bl bc, .slice WA wl wc, .int .i64 ra, .int .i64 rn, .int .i64 co, .int .i64 ob]] w (DoW g 23 (rn).toNat w) := by
  obtain ⟨hkw, hR, hA⟩ := box2t w 48 28 [.int .i64 23, .int .i64 at_, .int .i64 n, .int .u16 v, .int .u16 an, .int .u16 orr, .slice BA bl bc, .slice WA wl wc, .int .i64 ra, .int .i64 rn, .int .i64 co, .int .i64 ob] [.int .i64 0, .int .i64 0, .slice none 0 0, .slice none 0 0, .int .i64 0, .int .i64 0, .int .u16 0, .int .u16 0, .int .u16 0, .int .i64 0, .int .i64 0, .bool false, .int .i64 0, .slice none 0 0]
  obtain ⟨W, hW⟩ : ∃ W, (w.alloc (.cells #[.int .i64 23, .int .i64 at_, .int .i64 n, .int .u16 v, .int .u16 an, .int .u16 orr, .slice BA bl bc, .slice WA wl wc, .int .i64 ra, .int .i64 rn, .int .i64 co, .int .i64 ob] 48)).alloc (.cells #[.int .i64 0, .int .i64 0, .slice none 0 0, .slice none 0 0, .int .i64 0, .int .i64 0, .int .u16 0, .int .u16 0, .int .u16 0, .int .i64 0, .int .i64 0, .bool false, .int .i64 0, .slice none 0 0] 28) = W := ⟨_, rfl⟩
  rw [show (w.alloc (.cells (List.toArray [.int .i64 23, .int .i64 at_, .int .i64 n, .int .u16 v, .int .u16 an, .int .u16 orr, .slice BA bl bc, .slice WA wl wc, .int .i64 ra, .int .i64 rn, .int .i64 co, .int .i64 ob]) 48)).alloc (.cells (List.toArray [.int .i64 0, .int .i64 0, .slice none 0 0, .slice none 0 0, .int .i64 0, .int .i64 0, .int .u16 0, .int .u16 0, .int .u16 0, .int .i64 0, .int .i64 0, .bool false, .int .i64 0, .slice none 0 0]) 28) = W from hW] at hkw hA hR
  have hgw : g < w.heap.size := hF.lt
  have hsW : w.heap.size + 1 < W.heap.size := hR.lt
  obtain ⟨aa0, aa1, aa2, aa3, aa4, aa5, aa6, aa7, aa8, aa9, aa10, aa11⟩ := cells12 hA
  have HRt := Lib.hid hrt
  have HT1 : Hid (kTab 23 = 2) := rfl
  have HT2 : Hid (kHas 23 = true) := rfl
  have hrt0 := hrt
  obtain ⟨_, _, ⟨a0, a1⟩, ⟨r0, r1⟩, hfit⟩ := hrt0
  unfold fitsP at hfit
  have hm1 : kMostR 23 = 125 := by decide
  have q0 : 0 ≤ rn := by omega
  have q1 : rn ≤ 2000 := by omega
  clear hfit hm1
  go_enter Try.func16, Try.ntmps16
  go_wp2_with fail
  refine (rspans_23 at_ n v an orr bl wl ra rn co ob BA WA bc wc W HRt.out).mono ?_
  rintro e w1 ⟨R, nr, rc, S, ns, sc, rfl, hRr, hSr, hb1⟩
  have hk1 := hkw.trans (hb1.mono hkw.size)
  have hA1 := hA.below hb1 hA.lt
  have hR1 := hR.below hb1 hR.lt
  have hF1 := hF.below hk1
  obtain ⟨L, fn_, fc, hFw, hFl, hFn⟩ := hF1
  have hR2' : OneRow w1 R nr (some (2, ra, ra + rn)) := by simpa [spR, kTab] using hRr
  obtain ⟨hnr, rB, rfl, hrg, hrl, s0, s1, s2⟩ := row_ne hFw hR2'
  subst hnr
  have hC1 : SC w1 rB 2 (ra) (ra + rn) := ⟨hrl, s0, s1, s2⟩
  have hS2 : OneRow w1 S ns (some (2, at_, at_ + n)) := by simpa [spW, kTab] using hSr
  obtain ⟨hns, sB, rfl, hsg, hsl, u0, u1, u2⟩ := row_ne hFw hS2
  subst hns
  have hD1 : SC w1 sB 2 at_ (at_ + n) := ⟨hsl, u0, u1, u2⟩
  clear hRr hSr hS2 hR2' s0 s1 s2 u0 u1 u2 aa0 aa1 aa2 aa3 aa4 aa5 aa6 aa7 aa8 aa9 aa10 aa11
  obtain ⟨aa0, aa1, aa2, aa3, aa4, aa5, aa6, aa7, aa8, aa9, aa10, aa11⟩ := cells12 hA1
  go_wp2_with fail
  refine (right_yes 23 at_ n v an orr bl wl ra rn co ob BA WA bc wc w1 HRt.out).mono ?_
  rintro e w2 ⟨rfl, hb2⟩
  have hk2 := hk1.trans (hb2.mono hk1.size)
  have hA2 := hA1.below hb2 hA1.lt
  have hR2 := hR1.below hb2 hR1.lt
  have hC2 := hC1.below hb2
  have hD2 := hD1.below hb2
  obtain ⟨_, y0, y1, y2⟩ := hC2
  clear aa0 aa1 aa2 aa3 aa4 aa5 aa6 aa7 aa8 aa9 aa10 aa11
  obtain ⟨aa0, aa1, aa2, aa3, aa4, aa5, aa6, aa7, aa8, aa9, aa10, aa11⟩ := cells12 hA2
  go_wp2_with fail
  refine (span12_any 2 (ra) (ra + rn) w2).mono ?_
  rintro e w3 ⟨bb, rfl, hb3⟩
  have hC3 := (hC1.below hb2).below hb3
  have hD3 := hD2.below hb3
  clear y0 y1 y2
  have hk3 := hk2.trans (hb3.mono hk2.size)
  have hA3 := hA2.below hb3 hA2.lt
  have hR3 := hR2.below hb3 hR2.lt
  have hF3 := hF.below hk3
  clear aa0 aa1 aa2 aa3 aa4 aa5 aa6 aa7 aa8 aa9 aa10 aa11
  obtain ⟨aa0, aa1, aa2, aa3, aa4, aa5, aa6, aa7, aa8, aa9, aa10, aa11⟩ := cells12 hA3
  obtain ⟨rr0, rr1, rr2, rr3, rr4, rr5, rr6, rr7, rr8, rr9, rr10, rr11, rr12, rr13⟩ := cells14 hR3
  obtain ⟨ff0, ff1, ff2, ff3, ff4, ff5, ff6, ff7, ff8, ff9, ff10, ff11, ff12, ff13⟩ := frozen14 hR3
  have hy3 : w.heap.size + 1 < w3.heap.size := hR3.lt
  cases bb
  · clear hC1 hC3 hD1 hD2 hD3
    have HR3 := Lib.hid hR3
    have HK3 := Lib.hid hk3
    clear hA hR hA1 hR1 hA2 hR2 hA3 hR3 hF hFw hFl hFn hF3 hb1 hb2 hb3 hk1 hk2 hk3 hkw hbr hwr hws hwd hrt
    go_wp2_with fail
    exact end14 Try.results16 HR3.out rfl HK3.out (Nat.le_succ _) rfl rfl fun w9 hbb hk => .inl ⟨rfl, Off.of_below hbb⟩
  · obtain ⟨_, y0, y1, y2⟩ := hD3
    go_wp2_with fail
    refine (span12_any 2 at_ (at_ + n) w3).mono ?_
    rintro e wx ⟨bx, rfl, hbx⟩
    have hCx := hC3.below hbx
    clear y0 y1 y2 hD1 hD2 rr0 rr1 rr2 rr3 rr4 rr5 rr6 rr7 rr8 rr9 rr10 rr11 rr12 rr13 ff0 ff1 ff2 ff3 ff4 ff5 ff6 ff7 ff8 ff9 ff10 ff11 ff12 ff13
    have hkx := hk3.trans (hbx.mono hk3.size)
    have hAx := hA3.below hbx hA3.lt
    have hRx := hR3.below hbx hR3.lt
    have hFx := hF.below hkx
    clear aa0 aa1 aa2 aa3 aa4 aa5 aa6 aa7 aa8 aa9 aa10 aa11
    obtain ⟨aa0, aa1, aa2, aa3, aa4, aa5, aa6, aa7, aa8, aa9, aa10, aa11⟩ := cells12 hAx
    obtain ⟨rr0, rr1, rr2, rr3, rr4, rr5, rr6, rr7, rr8, rr9, rr10, rr11, rr12, rr13⟩ := cells14 hRx
    obtain ⟨ff0, ff1, ff2, ff3, ff4, ff5, ff6, ff7, ff8, ff9, ff10, ff11, ff12, ff13⟩ := frozen14 hRx
    have hyx : w.heap.size + 1 < wx.heap.size := hRx.lt
    cases bx
    · clear hC1 hC3 hCx hA2 hR2 hk2 hF3
      have HR3 := Lib.hid hRx
      have HK3 := Lib.hid hkx
      clear hA hR hA1 hR1 hA3 hR3 hAx hRx hF hFw hFl hFn hFx hb1 hb2 hbx hk1 hk3 hkx hkw hbr hwr hws hwd hrt
      go_wp2_with fail
      exact end14 Try.results16 HR3.out rfl HK3.out (Nat.le_succ _) rfl rfl fun w9 hbb hk => .inl ⟨rfl, Off.of_below hbb⟩
    · clear hC3 hA2 hR2 hk2 hF3
      have HF3 : Hid (FileAt wx.drew g N) := hF.below hkx.drew
      have HA3 := Lib.hid hAx
      have HR3 := Lib.hid hRx
      have HK3 := Lib.hid hkx
      have HBR := Lib.hid hbr
      have HWR := Lib.hid hwr
      have HWS := Lib.hid hws
      have HWD := Lib.hid hwd
      have HF := Lib.hid hF
      have HC3 := Lib.hid hCx
      clear hC1 hCx
      clear hA hR hA1 hR1 hA3 hR3 hAx hRx hF hFw hFl hFn hFx hb1 hb2 hbx hk1 hk3 hkx hkw hbr hwr hws hwd hrt rr0 rr1 rr2 rr3 rr4 rr5 rr6 rr7 rr8 rr9 rr10 rr11 rr12 rr13 ff0 ff1 ff2 ff3 ff4 ff5 ff6 ff7 ff8 ff9 ff10 ff11 ff12 ff13
      go_upto_region 5 with (go_at_call 44; (with_reducible refine (table_lit 23 _ _ _ HT1.out HT2.out).mono ?_); rintro e w' ⟨rfl, rfl⟩)
      go_region_with (first
        | (go_at_call 46
           (with_reducible refine (fget_any g N 2 at_ wx.drew HF3.out (by omega)).mono ?_)
           rintro e w4 ⟨was, rfl, was0, was1, hb4⟩
           have hb4' : Below wx.heap.size wx w4 := below_from (d := 1) hb4
           have HK4 := Lib.hid (HK3.out.trans (hb4'.mono HK3.out.size))
           have hA4 := HA3.out.below hb4' HA3.out.lt
           obtain ⟨ab0, ab1, ab2, ab3, ab4, ab5, ab6, ab7, ab8, ab9, ab10, ab11⟩ := cells12 hA4
           have HA4 := Lib.hid hA4
           have HR4 := Lib.hid (HR3.out.below hb4' HR3.out.lt)
           have HC4 := Lib.hid (HC3.out.below hb4')
           clear hb4 hb4' hA4)
        | (go_at_call 45
           (with_reducible refine (rcells_23 at_ n v an orr bl wl ra rn co ob BA WA bc wc bs ws was w4 HRt.out HWD.out ((HBR.out.below HK4.out).more HK4.out.size) ((HWR.out.below HK4.out).more HK4.out.size) HWS.out was0 was1).mono ?_)
           rintro e w5 ⟨A5, m5, c5, rfl, hm5, ho5, hb5⟩
           have HK5 := Lib.hid (HK4.out.trans (hb5.mono HK4.out.size))
           have HF5 := Lib.hid (HF.out.below HK5.out)
           have HL5 : Hid (CL w5 g A5 m5) := ho5.cl (Nat.lt_of_lt_of_le hgw HK4.out.size)
           have HA5 := Lib.hid (HA4.out.below hb5 HA4.out.lt)
           have HR5 := Lib.hid (HR4.out.below hb5 HR4.out.lt)
           have HC5 := Lib.hid (HC4.out.below hb5)
           clear hb5 ho5)
        | (go_at_call 13
           (with_reducible refine (fset_any g N A5 m5 c5 w5 HF5.out HL5.out (by omega)).mono ?_)
           rintro e w6 ⟨rfl, hF6, hO6⟩
           have hA6 := hO6.whole HA5.out (by omega)
           have HA6 := Lib.hid hA6
           have HR6 := Lib.hid (hO6.whole HR5.out (by omega))
           obtain ⟨ac0, ac1, ac2, ac3, ac4, ac5, ac6, ac7, ac8, ac9, ac10, ac11⟩ := cells12 hA6
           have HO6 : Hid (Off (fun k => k = g) w w6) := (Off.of_below HK5.out).trans hO6 (fun i hi => .inl hi)
           have HF6 := Lib.hid hF6
           have hz6 : w.heap.size + 1 < w6.heap.size := HR6.out.lt
           have HC6 := Lib.hid (HC5.out.off hO6 hrg)
           have hm5x : N + m5 ≤ 900000 := by omega
           clear hA6 hF6 hO6))
      all_goals
        obtain ⟨cnt, hcn1, hcn2⟩ : ∃ cnt : Nat, rn ≤ (cnt : Int) ∧ (cnt : Int) ≤ rn := ⟨(rn).toNat, by omega, by omega⟩
        have hcm : cnt ≤ 2000 := by omega
        obtain ⟨hCl, z0, z1, z2⟩ := HC6.out
        go_wp2
        go_loopw [10, 11] (fun l i wr => ∃ (k : Nat) (A7 : Option Addr) (c7 : Nat), k ≤ cnt ∧ l = .slice A7 k c7 ∧ i = .int .i64 (ra + (k : Int)) ∧ Hid (WO wr w6.heap.size (.slice A7 k c7) k) ∧ Hid (Below w6.heap.size w6 wr)) (fun _ i _ => cnt - (intOf i - ra).toNat)
        case atStart => exact ⟨0, none, 0, by omega, rfl, congrArg (Value.int .i64) (by omega), Lib.hid (WO.nil _ _), Lib.hid (Below.refl _ _)⟩
        case round =>
          obtain ⟨k, A7, c7, hkn, rfl, rfl, HO, HB⟩ := hrel
          obtain ⟨hCr, v0, v1, v2⟩ := HC6.out.below HB.out
          by_cases hlt : k < cnt
          · have hlt' : ra + (k : Int) < ra + rn := by omega
            have hFr := HF6.out.below HB.out
            clear z0 z1 z2 ac0 ac1 ac2 ac3 ac4 ac5 ac6 ac7 ac8 ac9 ac10 ac11
            go_wp2_with fail
            refine (fget_any g (N + m5) 2 (ra + (k : Int)) wr hFr (by omega)).mono ?_
            rintro e w8 ⟨x, rfl, x0, x1, hb8⟩
            have HB8 := Lib.hid (HB.out.trans (hb8.mono HB.out.size))
            have HO8 := Lib.hid (HO.out.keep hb8)
            clear hb8 hFr
            have hk3 : k ≤ 3000 := by omega
            go_wp2_with (first
              | (at_builtin; (with_reducible show wpList Try.prog _ _ ((⟨some 90, _, _, _, _, _⟩ : Oper) :: _) _ _); refine wpList_append_word (o := ⟨some 90, _, _, _, _, _⟩) rfl _ _ rfl w6.heap.size (.slice A7 k c7) k rfl (HO8.out.keep ((Below.refl _ _).alloc (Nat.le_refl _) _)) w8.heap.size x rfl (row_one w8 x 25) x0 x1 (by omega) (Nat.le_trans HB8.out.size (by simp)) ?_
                 intro A9 c9 w9 hown9 hg9
                 have HO9 := Lib.hid hown9
                 have HB9 := Lib.hid (below_wo (HB8.out.alloc HB8.out.size _) (HO8.out.keep ((Below.refl _ w8).alloc (Nat.le_refl _) _)) hg9 (Nat.le_trans HB8.out.size (by simp)))
                 clear hown9 hg9))
            go_roundw
            case rel => first | exact ⟨k + 1, A9, c9, by omega, rfl, congrArg (Value.int .i64) (by omega), HO9, HB9⟩ | (repeat apply Exists.intro; exact ⟨⟨k + 1, A9, c9, by omega, rfl, congrArg (Value.int .i64) (by omega), HO9, HB9⟩, rfl⟩) | (trace_state; sorry)
            case measure => simp [intOf]; omega
          · have hge : ¬ ra + (k : Int) < ra + rn := by omega
            obtain rfl : k = cnt := by omega
            have hA8 := HA6.out.below HB.out HA6.out.lt
            clear z0 z1 z2 ac0 ac1 ac2 ac3 ac4 ac5 ac6 ac7 ac8 ac9 ac10 ac11
            obtain ⟨ac0, ac1, ac2, ac3, ac4, ac5, ac6, ac7, ac8, ac9, ac10, ac11⟩ := cells12 hA8
            obtain ⟨zs, hzw, hzl, hzo⟩ := HO.out
            go_wp2_with fail
            refine (shown_w 23 at_ n v an orr bl wl ra rn co ob BA WA bc wc A7 k c7 zs wr (by omega) (by omega) (own_row hzo).ints (by omega)).mono ?_
            rintro e w7 ⟨WA7, wc7, rfl, hown7, hb7⟩
            have hR7 := (HR6.out.below HB.out HR6.out.lt).below hb7 (HR6.out.below HB.out HR6.out.lt).lt
            obtain ⟨rr0, rr1, rr2, rr3, rr4, rr5, rr6, rr7, rr8, rr9, rr10, rr11, rr12, rr13⟩ := cells14 hR7
            obtain ⟨ff0, ff1, ff2, ff3, ff4, ff5, ff6, ff7, ff8, ff9, ff10, ff11, ff12, ff13⟩ := frozen14 hR7
            have HR7 := Lib.hid hR7
            have HO7 := Lib.hid ((HO6.out.then HB.out).then hb7)
            have HW7 := Lib.hid hown7
            have hz7 : w.heap.size + 1 < w7.heap.size := hR7.lt
            have hzr : w.heap.size + 1 < wr.heap.size := Nat.lt_of_lt_of_le hz6 HB.out.size
            have hZW := Lib.hid hzw
            have hZL := Lib.hid hzl
            clear hR7 hb7 hown7 hzo hA8 hzw hzl
            go_wp2_with fail
            exact end14 Try.results16 HR7.out rfl (Below.refl (w.heap.size) w7) (Nat.le_succ _) rfl rfl fun w9 hbb hk => .inr (by rw [show (rn).toNat = k by omega]; exact ⟨WA7, wc7, zs, rfl, hZW.out, hZL.out, (own_row (own_blk HW7.out hk hzr)).ints, HO7.out.thenB hbb (Nat.le_refl _)⟩)

end Go.Proofs.Ytielfekkonflfaa

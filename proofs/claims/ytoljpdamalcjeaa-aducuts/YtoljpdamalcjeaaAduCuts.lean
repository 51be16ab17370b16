/- Proved: for every slice of bytes, every bool and every int, busbarlaw8.AduCuts returns true, and its argument reads as before. Conditions: none. -/
import Derived.Test.YtoljpdamalcjeaaAwake8
import Derived.Test.YtoljpdamalcjeaaAdu4
import Derived.Test.YtoljpdamalcjeaaWithin
import Derived.Test.YtoljpdamalcjeaaLentBytes
import Derived.ChangeMaps
namespace Go.Proofs.Ytoljpdamalcjeaa.aduCuts
open Go.ChangeShapes Go.WideShapes Go.ChangeAt Go.RowKit
open Go.ChangeMaps (open_string shut_string)
set_option linter.unusedVariables false
set_option linter.unusedSimpArgs false


theorem own_set {w : World} {base : Nat} {e : TypeId} {g n c : Nat} {xs : List Value} (h : w.ownsRow base e 1 (.slice (some ⟨g, 0, none⟩) n c) n xs) (hn : 0 < n) (i : Nat) (u : Value) : (w.setCell ⟨g, i, none⟩ u).ownsRow base e 1 (.slice (some ⟨g, 0, none⟩) n c) n (xs.set i u) := by
  obtain ⟨g', c', hv, _, _, _, hs⟩ := own_open h hn
  injection hv with e1 e2 e3
  injection e1 with e1
  injection e1 with e1
  subst e1 e3
  exact hs i u
theorem own_lt {w : World} {base : Nat} {e : TypeId} {g n c : Nat} {xs : List Value} (h : w.ownsRow base e 1 (.slice (some ⟨g, 0, none⟩) n c) n xs) (hn : 0 < n) : g < w.heap.size := by
  obtain ⟨g', c', hv, _, hr⟩ := row_of_own h hn
  injection hv with e1 e2 e3
  injection e1 with e1
  injection e1 with e1
  subst e1
  obtain ⟨b, off, hA, hb, _⟩ := hr.2 hn
  injection hA with hA
  injection hA with hA
  subst hA
  exact hb
/-- A row of the call's own, opened at one place. -/
theorem own_at {w : World} {b : Nat} {e : TypeId} {B : Option Addr} {n c : Nat} {zs : List Int} (h : w.ownsRow b e 1 (.slice B n c) n (zs.map (Value.int .u8))) (hn : 0 < n) :
    ∃ g, B = some ⟨g, 0, none⟩ ∧ b ≤ g ∧ (∀ i, i < n → w.cell? ⟨g, i, none⟩ = some (.int .u8 (zs.getD i 0))) ∧ (∀ i, w.frozen? ⟨g, i, none⟩ = false) := by
  obtain ⟨g, cap, hv, hgb, hrow, hfz, hset⟩ := own_open h hn
  injection hv with hv1 _ hv3
  subst hv1 hv3
  refine ⟨g, rfl, hgb, fun i hi => ?_, hfz⟩
  obtain ⟨b, off, e, _, hcell⟩ := hrow.ints.2 (by omega)
  injection e with e
  injection e with e1 e2
  subst e1 e2
  have := hcell i hi
  rwa [Nat.zero_add] at this
theorem set_bytes {zs : List Int} (h : Bytes8 zs) (k : Nat) (v : Int) (h0 : 0 ≤ v) (h1 : v ≤ 255) : Bytes8 (zs.set k v) := by
  intro x hm
  rcases List.mem_or_eq_of_mem_set hm with hm | hm
  · exact h x hm
  · omega

/-- What both Cuts answer. -/
theorem both (ys : List Int) (n : Nat) (hl : ys.length = n) (hx : Bytes8 ys) (hn : n ≤ 400) : ∃ (T U K E : Int) (p : Nat) (ps : List Int), p ≤ 400 ∧ Bytes8 ps ∧
    (∀ A c W, Row .u8 W W.heap.size A n ys → n ≤ c → Calls Try.prog 18 #[.slice A n c] W fun x w' => ∃ B d, x = .returned (.tuple #[.agg #[.int .i64 T, .int .i64 U, .slice B p d], .int .i64 K, .int .i64 E]) ∧ w'.ownsRow W.heap.size 5 1 (.slice B p d) p (ps.map (Value.int .u8)) ∧ Below W.heap.size W w') ∧
    ∀ A c W, Row .u8 W W.heap.size A n ys → n ≤ c → Calls Try.prog 19 #[.slice A n c] W fun x w' => ∃ B d, x = .returned (.tuple #[.agg #[.int .i64 T, .int .i64 U, .slice B p d], .int .i64 K, .int .i64 E]) ∧ w'.ownsRow W.heap.size 5 1 (.slice B p d) p (ps.map (Value.int .u8)) ∧ Below W.heap.size W w' := by
  by_cases he : hE ys n = 0
  · obtain ⟨h7, _, l0, l1⟩ := hE_good he
    obtain ⟨m, hm⟩ : ∃ m : Nat, wordAt ys 4 = (m : Int) + 1 := ⟨(wordAt ys 4 - 1).toNat, by omega⟩
    by_cases hlt : (n : Int) < 6 + wordAt ys 4
    · exact ⟨0, 0, 0, 3, 0, [], by omega, fun x hx => by simp at hx, fun A c W hr _ => (acut_more A n c ys W hr hx (by omega) he hlt).mono fun e w' ⟨h1, h2⟩ => ⟨none, 0, h1, own_none _ _ _, h2⟩, fun A c W hr _ => (rcut_more A n c ys W hr hx (by omega) he hlt).mono fun e w' ⟨h1, h2⟩ => ⟨none, 0, h1, own_none _ _ _, h2⟩⟩
    · have hlen : ((ys.drop 7).take m).length = m := by rw [List.length_take, List.length_drop]; omega
      refine ⟨wordAt ys 0, ys.getD 6 0, ((7 + m : Nat) : Int), 0, m, (ys.drop 7).take m, by omega, fun x hm => hx x (List.mem_of_mem_drop (List.mem_of_mem_take hm)), fun A c W hr hc => ?_, fun A c W hr hc => rcut_ok A n c ys W m hr hx (by omega) hc he hm (by omega)⟩
      exact (acut_ok A n c ys W m hr hx (by omega) hc he hm (by omega)).mono fun e w' ⟨g, h1, h2, h3, h4⟩ => ⟨_, _, h1, own_whole h3 (by omega) hlen (by omega), h4⟩
  · exact ⟨0, 0, 0, hE ys n, 0, [], by omega, fun x hx => by simp at hx, fun A c W hr _ => (acut_err A n c ys W _ hr hx (by omega) rfl he).mono fun e w' ⟨h1, h2⟩ => ⟨none, 0, h1, own_none _ _ _, h2⟩, fun A c W hr _ => (rcut_err A n c ys W _ hr hx (by omega) rfl he).mono fun e w' ⟨h1, h2⟩ => ⟨none, 0, h1, own_none _ _ _, h2⟩⟩

set_option maxRecDepth 100000 in
set_option maxHeartbeats 1000000 in
theorem same_yes (T U : Int) (A B : Option Addr) (n c d : Nat) (zs : List Int) (w : World) (ha : Row .u8 w w.heap.size A n zs) (hb : Row .u8 w w.heap.size B n zs) :
    Calls Try.prog 20 #[.agg #[.int .i64 T, .int .i64 U, .slice A n c], .agg #[.int .i64 T, .int .i64 U, .slice B n d]] w fun e w' => e = .returned (.bool true) ∧ Below w.heap.size w w' := by
  have hk : Below w.heap.size w ((w.alloc (.cells #[.int .i64 T, .int .i64 U, .slice A n c] 30)).alloc (.cells #[.int .i64 T, .int .i64 U, .slice B n d] 32)) := ((Below.refl _ _).alloc (Nat.le_refl _) _).alloc (by simp) _
  have hc1 := conv_row A n c zs _ ((ha.below hk).more hk.size)
  have hc2 := conv_row B n d zs _ ((hb.below hk).more hk.size)
  have HK := Lib.hid hk
  clear ha hb hk
  go_enter Try.func20, Try.ntmps20
  go_wp2
  go_ret
  exact ⟨rfl, HK.out⟩

set_option maxRecDepth 100000 in
theorem walk_long (A : Option Addr) (n c : Nat) (b : Bool) (a2 : Int) (w : World) (h : 400 < n) :
    Calls Try.prog 4 #[.slice A n c, .bool b, .int .i64 a2] w fun e w' => e = .returned (.bool true) ∧ Below w.heap.size w w' := by
  have h2 : (400 : Int) < (n : Int) := by omega
  go_enter Try.func4, Try.ntmps4
  go_wp2_with (go_at_call 12; refine (awake_any _).mono ?_; rintro e w1 ⟨rfl, hb⟩; have HB := Lib.hid hb; clear hb)
  go_ret
  exact ⟨rfl, HB.out⟩

theorem own_cap {w : World} {base : Nat} {e : TypeId} {A : Option Addr} {n c : Nat} {xs : List Value} (h : w.ownsRow base e 1 (.slice A n c) n xs) : n ≤ c := by
  rcases h.2 with ⟨h, h0⟩ | ⟨_, cap, _, h, _, _, h7, _⟩
  · omega
  · injection h with _ _ h3; omega

set_option maxRecDepth 100000 in
set_option maxHeartbeats 4000000 in
theorem walk_plain (A : Option Addr) (n c : Nat) (zs : List Int) (a2 : Int) (w : World) (hr : Row .u8 w w.heap.size A n zs) (hx : Bytes8 zs) (hn : n ≤ 400) :
    Calls Try.prog 4 #[.slice A n c, .bool false, .int .i64 a2] w fun e w' => e = .returned (.bool true) ∧ Below w.heap.size w w' := by
  have hi1 : ¬ (400 : Int) < (n : Int) := by omega
  obtain ⟨T, U, K, E, p, ps, hp, hps, hG, hF⟩ := both zs n hr.1 hx hn
  have CG := Lib.hid hG
  have CF := Lib.hid hF
  have HPS := Lib.hid hps
  have HR := Lib.hid hr
  have HX := Lib.hid hx
  clear hr hx hps hG hF
  go_enter Try.func4, Try.ntmps4
  go_wp2_with (first
    | (go_at_call 12
       refine (awake_any _).mono ?_
       rintro e w1 ⟨rfl, hb⟩
       have HR1 := Lib.hid ((HR.out.below hb).more hb.size)
       have HB1 := Lib.hid hb
       have HO := Lib.hid (own_none w1 w.heap.size 5)
       clear hb)
    | (at_builtin
       refine wpList_append_row _ (o := ⟨some 25, _, _, _, _, _⟩) ?_ (.const (.slice none 0 0)) (.tmp 24) 22 ?_ w.heap.size 5 (.int .u8 0) 1 Try.underlying22 info5 rfl (.slice none 0 0) 0 [] ?_ HO.out _ A n c _ ?_ HR1.out.v (one_cells _ _) (by omega) (by omega) HB1.out.size ?_
       · rfl
       · rfl
       · rfl
       · rfl
       intro v2 w2 hown2 hg2 hat2
       rw [Nat.zero_add, List.nil_append] at hown2
       obtain ⟨B, cb, rfl⟩ := own_slice hown2
       have HO2 := Lib.hid hown2
       have HB2 := Lib.hid (below_append HB1.out HO.out hg2 HB1.out.size)
       clear hown2 hg2 hat2)
    | (go_at_call 14
       refine (lent_all B n cb zs _ (own_row HO2.out).ints (by omega)).mono ?_
       rintro e w3 ⟨rfl, hr3, hm3, hw3, hb3, hz3⟩
       have HR3 := Lib.hid hr3
       have HM3 := Lib.hid hm3
       have HW3 := Lib.hid hw3
       have HB3 := Lib.hid (HB2.out.trans (hb3.mono HB2.out.size))
       have hzz3 : w.heap.size ≤ w3.heap.size := HB3.out.size
       clear hr3 hm3 hw3 hb3)
    | (go_at_call 18
       refine (CG.out _ _ _ HM3.out (by omega)).mono ?_
       rintro e w4 ⟨B4, d4, rfl, ho4, hb4⟩
       have hk4 : Below w3.heap.size w3 (w4.alloc (.cells #[.int .i64 T, .int .i64 U, .slice B4 p d4] 30)) := hb4.alloc hb4.size _
       have HK4 := Lib.hid hk4
       have HR4 := Lib.hid ((HR3.out.below hk4).more hk4.size)
       have HO4 := Lib.hid ho4
       clear hk4 hb4 ho4)
    | (go_at_call 19
       refine (CF.out _ _ _ HR4.out (own_cap HO2.out)).mono ?_
       rintro e w5 ⟨B5, d5, rfl, ho5, hb5⟩
       have hb5' := below_alloc1 hb5
       have HX5 := Lib.hid (box3 _ _ _ _ _ _ hb5')
       have ho45 := own_keep (HO4.out.alloc (o := .cells #[.int .i64 T, .int .i64 U, .slice B4 p d4] 30)) hb5
       have hx0 := HX5.out.cell 0
       have hx1 := HX5.out.cell 1
       have hx2 := HX5.out.cell 2
       have hlt5 : w4.heap.size < w5.heap.size := HX5.out.lt
       have hal5 := (Below.refl w5.heap.size w5).alloc (Nat.le_refl _) (.cells #[.int .i64 T, .int .i64 U, .slice B5 p d5] 32)
       have HO45 := Lib.hid (own_keep ho45 hal5)
       have HO55 := Lib.hid (own_keep ho5 hal5)
       have HX55 := Lib.hid (HX5.out.below hal5 hlt5)
       have HK5 := Lib.hid ((HK4.out.trans (hb5.mono HK4.out.size)).trans (hal5.mono (HK4.out.trans (hb5.mono HK4.out.size)).size))
       clear ho5 hb5 hb5' ho45 hal5)
    | (go_at_call 20
       refine (same_yes T U B4 B5 p d4 d5 ps _ (own_row HO45.out).ints (own_row HO55.out).ints).mono ?_
       rintro e w6 ⟨rfl, hb6⟩
       have HO6 := Lib.hid (own_keep HO45.out hb6)
       have HX6 := Lib.hid (HX55.out.below hb6 HX55.out.lt)
       have HK6 := Lib.hid (HK5.out.trans (hb6.mono HK5.out.size))
       clear hb6))
  go_loopw [15] (fun i wr => ∃ (k : Nat) (qs : List Int), k ≤ p ∧ i = .int .i64 (k : Int) ∧ Hid (Bytes8 qs) ∧ Hid (wr.ownsRow w3.heap.size 5 1 (.slice B4 p d4) p (qs.map (Value.int .u8))) ∧ Hid (WholeV wr w4.heap.size 30 [.int .i64 T, .int .i64 U, .slice B4 p d4]) ∧ Hid (Below w3.heap.size w3 wr)) (fun i _ => p - (intOf i).toNat)
  case atStart => exact ⟨0, ps, by omega, rfl, HPS, HO6, HX6, HK6⟩
  case round =>
    obtain ⟨k, qs, hk, rfl, HQ, HOr, HXr, HKr⟩ := hrel
    have hh2 := HXr.out.cell 2
    by_cases hlt : k < p
    · have hi : (k : Int) < (p : Int) := by omega
      obtain ⟨g, hB4, hgb, hcl, hfz⟩ := own_at HOr.out (by omega)
      subst hB4
      have hg4 : g < w4.heap.size := own_lt HO4.out (by omega)
      have hck := hcl k hlt
      have hfk := hfz k
      obtain ⟨v, hv⟩ : ∃ v, qs.getD k 0 = v := ⟨_, rfl⟩
      rw [hv] at hck
      have hvb := HQ.out.at_ k
      change 0 ≤ qs.getD k 0 ∧ qs.getD k 0 ≤ 255 at hvb
      rw [hv] at hvb
      obtain ⟨v0, v1⟩ := hvb
      obtain ⟨u, hu⟩ : ∃ u, IntKind.u8.wrap (v + 1) = u := ⟨_, rfl⟩
      have hub : 0 ≤ u ∧ u ≤ 255 := by rw [← hu, IntKind.wrap_u8]; omega
      clear hcl hfz hv
      go_wp2
      go_roundw
      case rel =>
        refine ⟨k + 1, qs.set k u, by omega, by go_num, set_bytes HQ.out k u hub.1 hub.2, ?_, ?_, HKr.out.setCell (p := ⟨g, k, none⟩) hgb _⟩
        · have h := own_set HOr.out (by omega) k (.int .u8 u)
          rw [List.map_set]
          exact h
        · exact HXr.out.far (by omega) k _
      case measure => simp [intOf]; omega
    · obtain rfl : p = k := by omega
      have hd : decide (p < p) = false := by simp
      go_wp2_with (go_at_call 17; refine (stays_kept B n cb w2.heap.size zs w3 _ HR3.out HW3.out (by omega) HKr.out).mono ?_; rintro e w8 ⟨rfl, d8, rfl⟩)
      go_ret
      exact ⟨rfl, below_drewN (HB3.out.trans (HKr.out.mono HB3.out.size)) _⟩

set_option maxRecDepth 100000 in
set_option maxHeartbeats 4000000 in
theorem walk_few (A : Option Addr) (n c : Nat) (zs : List Int) (a2 : Int) (w : World) (hr : Row .u8 w w.heap.size A n zs) (hx : Bytes8 zs) (hn : n ≤ 400) (h6 : n < 6) :
    Calls Try.prog 4 #[.slice A n c, .bool true, .int .i64 a2] w fun e w' => e = .returned (.bool true) ∧ Below w.heap.size w w' := by
  have hi1 : ¬ (400 : Int) < (n : Int) := by omega
  have hi2 : ¬ (6 : Int) ≤ (n : Int) := by omega
  obtain ⟨T, U, K, E, p, ps, hp, hps, hG, hF⟩ := both zs n hr.1 hx hn
  have CG := Lib.hid hG
  have CF := Lib.hid hF
  have HPS := Lib.hid hps
  have HR := Lib.hid hr
  have HX := Lib.hid hx
  clear hr hx hps hG hF
  go_enter Try.func4, Try.ntmps4
  go_wp2_with (first
    | (go_at_call 12
       refine (awake_any _).mono ?_
       rintro e w1 ⟨rfl, hb⟩
       have HR1 := Lib.hid ((HR.out.below hb).more hb.size)
       have HB1 := Lib.hid hb
       have HO := Lib.hid (own_none w1 w.heap.size 5)
       clear hb)
    | (at_builtin
       refine wpList_append_row _ (o := ⟨some 25, _, _, _, _, _⟩) ?_ (.const (.slice none 0 0)) (.tmp 24) 22 ?_ w.heap.size 5 (.int .u8 0) 1 Try.underlying22 info5 rfl (.slice none 0 0) 0 [] ?_ HO.out _ A n c _ ?_ HR1.out.v (one_cells _ _) (by omega) (by omega) HB1.out.size ?_
       · rfl
       · rfl
       · rfl
       · rfl
       intro v2 w2 hown2 hg2 hat2
       rw [Nat.zero_add, List.nil_append] at hown2
       obtain ⟨B, cb, rfl⟩ := own_slice hown2
       have HO2 := Lib.hid hown2
       have HB2 := Lib.hid (below_append HB1.out HO.out hg2 HB1.out.size)
       clear hown2 hg2 hat2)
    | (go_at_call 14
       refine (lent_all B n cb zs _ (own_row HO2.out).ints (by omega)).mono ?_
       rintro e w3 ⟨rfl, hr3, hm3, hw3, hb3, hz3⟩
       have HR3 := Lib.hid hr3
       have HM3 := Lib.hid hm3
       have HW3 := Lib.hid hw3
       have HB3 := Lib.hid (HB2.out.trans (hb3.mono HB2.out.size))
       have hzz3 : w.heap.size ≤ w3.heap.size := HB3.out.size
       clear hr3 hm3 hw3 hb3)
    | (go_at_call 18
       refine (CG.out _ _ _ HM3.out (by omega)).mono ?_
       rintro e w4 ⟨B4, d4, rfl, ho4, hb4⟩
       have hk4 : Below w3.heap.size w3 (w4.alloc (.cells #[.int .i64 T, .int .i64 U, .slice B4 p d4] 30)) := hb4.alloc hb4.size _
       have HK4 := Lib.hid hk4
       have HR4 := Lib.hid ((HR3.out.below hk4).more hk4.size)
       have HO4 := Lib.hid ho4
       clear hk4 hb4 ho4)
    | (go_at_call 19
       refine (CF.out _ _ _ HR4.out (own_cap HO2.out)).mono ?_
       rintro e w5 ⟨B5, d5, rfl, ho5, hb5⟩
       have hb5' := below_alloc1 hb5
       have HX5 := Lib.hid (box3 _ _ _ _ _ _ hb5')
       have ho45 := own_keep (HO4.out.alloc (o := .cells #[.int .i64 T, .int .i64 U, .slice B4 p d4] 30)) hb5
       have hx0 := HX5.out.cell 0
       have hx1 := HX5.out.cell 1
       have hx2 := HX5.out.cell 2
       have hlt5 : w4.heap.size < w5.heap.size := HX5.out.lt
       have hal5 := (Below.refl w5.heap.size w5).alloc (Nat.le_refl _) (.cells #[.int .i64 T, .int .i64 U, .slice B5 p d5] 32)
       have HO45 := Lib.hid (own_keep ho45 hal5)
       have HO55 := Lib.hid (own_keep ho5 hal5)
       have HX55 := Lib.hid (HX5.out.below hal5 hlt5)
       have HK5 := Lib.hid ((HK4.out.trans (hb5.mono HK4.out.size)).trans (hal5.mono (HK4.out.trans (hb5.mono HK4.out.size)).size))
       clear ho5 hb5 hb5' ho45 hal5)
    | (go_at_call 20
       refine (same_yes T U B4 B5 p d4 d5 ps _ (own_row HO45.out).ints (own_row HO55.out).ints).mono ?_
       rintro e w6 ⟨rfl, hb6⟩
       have HO6 := Lib.hid (own_keep HO45.out hb6)
       have HX6 := Lib.hid (HX55.out.below hb6 HX55.out.lt)
       have HK6 := Lib.hid (HK5.out.trans (hb6.mono HK5.out.size))
       clear hb6))
  go_loopw [15] (fun i wr => ∃ (k : Nat) (qs : List Int), k ≤ p ∧ i = .int .i64 (k : Int) ∧ Hid (Bytes8 qs) ∧ Hid (wr.ownsRow w3.heap.size 5 1 (.slice B4 p d4) p (qs.map (Value.int .u8))) ∧ Hid (WholeV wr w4.heap.size 30 [.int .i64 T, .int .i64 U, .slice B4 p d4]) ∧ Hid (Below w3.heap.size w3 wr)) (fun i _ => p - (intOf i).toNat)
  case atStart => exact ⟨0, ps, by omega, rfl, HPS, HO6, HX6, HK6⟩
  case round =>
    obtain ⟨k, qs, hk, rfl, HQ, HOr, HXr, HKr⟩ := hrel
    have hh2 := HXr.out.cell 2
    by_cases hlt : k < p
    · have hi : (k : Int) < (p : Int) := by omega
      obtain ⟨g, hB4, hgb, hcl, hfz⟩ := own_at HOr.out (by omega)
      subst hB4
      have hg4 : g < w4.heap.size := own_lt HO4.out (by omega)
      have hck := hcl k hlt
      have hfk := hfz k
      obtain ⟨v, hv⟩ : ∃ v, qs.getD k 0 = v := ⟨_, rfl⟩
      rw [hv] at hck
      have hvb := HQ.out.at_ k
      change 0 ≤ qs.getD k 0 ∧ qs.getD k 0 ≤ 255 at hvb
      rw [hv] at hvb
      obtain ⟨v0, v1⟩ := hvb
      obtain ⟨u, hu⟩ : ∃ u, IntKind.u8.wrap (v + 1) = u := ⟨_, rfl⟩
      have hub : 0 ≤ u ∧ u ≤ 255 := by rw [← hu, IntKind.wrap_u8]; omega
      clear hcl hfz hv
      go_wp2
      go_roundw
      case rel =>
        refine ⟨k + 1, qs.set k u, by omega, by go_num, set_bytes HQ.out k u hub.1 hub.2, ?_, ?_, HKr.out.setCell (p := ⟨g, k, none⟩) hgb _⟩
        · have h := own_set HOr.out (by omega) k (.int .u8 u)
          rw [List.map_set]
          exact h
        · exact HXr.out.far (by omega) k _
      case measure => simp [intOf]; omega
    · obtain rfl : p = k := by omega
      have hd : decide (p < p) = false := by simp
      go_wp2_with (go_at_call 17; refine (stays_kept B n cb w2.heap.size zs w3 _ HR3.out HW3.out (by omega) HKr.out).mono ?_; rintro e w8 ⟨rfl, d8, rfl⟩)
      go_ret
      exact ⟨rfl, below_drewN (HB3.out.trans (HKr.out.mono HB3.out.size)) _⟩

set_option maxRecDepth 100000 in
set_option maxHeartbeats 4000000 in
theorem walk_mend (A : Option Addr) (n c : Nat) (zs : List Int) (a2 r : Int) (w : World) (hr : Row .u8 w w.heap.size A n zs) (hx : Bytes8 zs) (hn : n ≤ 400) (h6 : 6 ≤ n) (hrr : a2 % 256 = r) (p0 : -9223372036854775808 ≤ a2) (p1 : a2 ≤ 9223372036854775807) :
    Calls Try.prog 4 #[.slice A n c, .bool true, .int .i64 a2] w fun e w' => e = .returned (.bool true) ∧ Below w.heap.size w w' := by
  have hi1 : ¬ (400 : Int) < (n : Int) := by omega
  have hi2 : (6 : Int) ≤ (n : Int) := by omega
  have hi3 : (5 : Int) < (n : Int) := by omega
  have hi4 : (4 : Int) < (n : Int) := by omega
  have hi5 : (3 : Int) < (n : Int) := by omega
  have hi6 : (2 : Int) < (n : Int) := by omega
  have CW := Lib.hid (fun W => within_any a2 256 W p0 p1 (by omega) (by omega))
  rw [hrr] at CW
  have r0 : 0 ≤ r := by omega
  have r1 : r ≤ 255 := by omega
  have hwr : IntKind.u8.wrap r = r := IntWalk.u8_in _ (by omega)
  clear hrr p0 p1
  obtain ⟨yy, hyy⟩ : ∃ yy, ((((zs.set 2 0).set 3 0).set 4 0).set 5 r) = yy := ⟨_, rfl⟩
  have hyx : Bytes8 yy := by rw [← hyy]; exact set_bytes (set_bytes (set_bytes (set_bytes hx 2 0 (by omega) (by omega)) 3 0 (by omega) (by omega)) 4 0 (by omega) (by omega)) 5 r r0 r1
  have hyl : yy.length = n := by rw [← hyy]; simpa using hr.1
  obtain ⟨T, U, K, E, p, ps, hp, hps, hG, hF⟩ := both yy n hyl hyx hn
  have HYY := Lib.hid hyy
  have CG := Lib.hid hG
  have CF := Lib.hid hF
  have HPS := Lib.hid hps
  have HR := Lib.hid hr
  have HX := Lib.hid hx
  clear hr hx hps hG hF hyy hyx hyl
  go_enter Try.func4, Try.ntmps4
  go_wp2_with (first
    | (go_at_call 12
       refine (awake_any _).mono ?_
       rintro e w1 ⟨rfl, hb⟩
       have HR1 := Lib.hid ((HR.out.below hb).more hb.size)
       have HB1 := Lib.hid hb
       have HO := Lib.hid (own_none w1 w.heap.size 5)
       clear hb)
    | (at_builtin
       refine wpList_append_row _ (o := ⟨some 25, _, _, _, _, _⟩) ?_ (.const (.slice none 0 0)) (.tmp 24) 22 ?_ w.heap.size 5 (.int .u8 0) 1 Try.underlying22 info5 rfl (.slice none 0 0) 0 [] ?_ HO.out _ A n c _ ?_ HR1.out.v (one_cells _ _) (by omega) (by omega) HB1.out.size ?_
       · rfl
       · rfl
       · rfl
       · rfl
       intro v2 w2 hown2 hg2 hat2
       rw [Nat.zero_add, List.nil_append] at hown2
       obtain ⟨B, cb, rfl⟩ := own_slice hown2
       have HO2 := Lib.hid hown2
       have HB2 := Lib.hid (below_append HB1.out HO.out hg2 HB1.out.size)
       obtain ⟨gb, hBB, hgb, hcl, hfz⟩ := own_at hown2 (by omega)
       subst hBB
       have hk2 := hcl 2 (by omega)
       have hk3 := hcl 3 (by omega)
       have hk4 := hcl 4 (by omega)
       have hk5 := hcl 5 (by omega)
       have hf2 := hfz 2
       have hf3 := hfz 3
       have hf4 := hfz 4
       have hf5 := hfz 5
       have ho6 := own_set (own_set (own_set (own_set hown2 (by omega) 2 (.int .u8 0)) (by omega) 3 (.int .u8 0)) (by omega) 4 (.int .u8 0)) (by omega) 5 (.int .u8 r)
       rw [← List.map_set, ← List.map_set, ← List.map_set, ← List.map_set, HYY.out] at ho6
       have HO6 := Lib.hid ho6
       have HB6 := Lib.hid ((((HB2.out.setCell (p := ⟨gb, 2, none⟩) hgb (.int .u8 0)).setCell (p := ⟨gb, 3, none⟩) hgb (.int .u8 0)).setCell (p := ⟨gb, 4, none⟩) hgb (.int .u8 0)).setCell (p := ⟨gb, 5, none⟩) hgb (.int .u8 r))
       clear hcl hfz ho6
       clear hown2 hg2 hat2)
    | (go_at_call 13; refine (CW.out _).mono ?_; rintro e w' ⟨rfl, rfl⟩)
    | (go_at_call 14
       obtain ⟨wy, hwy⟩ : ∃ wy, (((w2.setCell ⟨gb, 2, none⟩ (.int .u8 0)).setCell ⟨gb, 3, none⟩ (.int .u8 0)).setCell ⟨gb, 4, none⟩ (.int .u8 0)).setCell ⟨gb, 5, none⟩ (.int .u8 r) = wy := ⟨_, rfl⟩
       have HOY := HO6
       have HBY := HB6
       rw [hwy] at HOY HBY
       rw [hwy]
       clear hwy HO6 HB6
       refine (lent_all (some ⟨gb, 0, none⟩) n cb yy _ (own_row HOY.out).ints (by omega)).mono ?_
       rintro e w3 ⟨rfl, hr3, hm3, hw3, hb3, hz3⟩
       have HR3 := Lib.hid hr3
       have HM3 := Lib.hid hm3
       have HW3 := Lib.hid hw3
       have HB3 := Lib.hid (HBY.out.trans (hb3.mono HBY.out.size))
       have hzz3 : w.heap.size ≤ w3.heap.size := HB3.out.size
       clear hr3 hm3 hw3 hb3)
    | (go_at_call 18
       refine (CG.out _ _ _ HM3.out (by omega)).mono ?_
       rintro e w4 ⟨B4, d4, rfl, ho4, hb4⟩
       have hk4 : Below w3.heap.size w3 (w4.alloc (.cells #[.int .i64 T, .int .i64 U, .slice B4 p d4] 30)) := hb4.alloc hb4.size _
       have HK4 := Lib.hid hk4
       have HR4 := Lib.hid ((HR3.out.below hk4).more hk4.size)
       have HO4 := Lib.hid ho4
       clear hk4 hb4 ho4)
    | (go_at_call 19
       refine (CF.out _ _ _ HR4.out (own_cap HOY.out)).mono ?_
       rintro e w5 ⟨B5, d5, rfl, ho5, hb5⟩
       have hb5' := below_alloc1 hb5
       have HX5 := Lib.hid (box3 _ _ _ _ _ _ hb5')
       have ho45 := own_keep (HO4.out.alloc (o := .cells #[.int .i64 T, .int .i64 U, .slice B4 p d4] 30)) hb5
       have hx0 := HX5.out.cell 0
       have hx1 := HX5.out.cell 1
       have hx2 := HX5.out.cell 2
       have hlt5 : w4.heap.size < w5.heap.size := HX5.out.lt
       have hal5 := (Below.refl w5.heap.size w5).alloc (Nat.le_refl _) (.cells #[.int .i64 T, .int .i64 U, .slice B5 p d5] 32)
       have HO45 := Lib.hid (own_keep ho45 hal5)
       have HO55 := Lib.hid (own_keep ho5 hal5)
       have HX55 := Lib.hid (HX5.out.below hal5 hlt5)
       have HK5 := Lib.hid ((HK4.out.trans (hb5.mono HK4.out.size)).trans (hal5.mono (HK4.out.trans (hb5.mono HK4.out.size)).size))
       clear ho5 hb5 hb5' ho45 hal5)
    | (go_at_call 20
       refine (same_yes T U B4 B5 p d4 d5 ps _ (own_row HO45.out).ints (own_row HO55.out).ints).mono ?_
       rintro e w6 ⟨rfl, hb6⟩
       have HO6 := Lib.hid (own_keep HO45.out hb6)
       have HX6 := Lib.hid (HX55.out.below hb6 HX55.out.lt)
       have HK6 := Lib.hid (HK5.out.trans (hb6.mono HK5.out.size))
       clear hb6))
  go_loopw [15] (fun i wr => ∃ (k : Nat) (qs : List Int), k ≤ p ∧ i = .int .i64 (k : Int) ∧ Hid (Bytes8 qs) ∧ Hid (wr.ownsRow w3.heap.size 5 1 (.slice B4 p d4) p (qs.map (Value.int .u8))) ∧ Hid (WholeV wr w4.heap.size 30 [.int .i64 T, .int .i64 U, .slice B4 p d4]) ∧ Hid (Below w3.heap.size w3 wr)) (fun i _ => p - (intOf i).toNat)
  case atStart => exact ⟨0, ps, by omega, rfl, HPS, HO6, HX6, HK6⟩
  case round =>
    obtain ⟨k, qs, hk, rfl, HQ, HOr, HXr, HKr⟩ := hrel
    have hh2 := HXr.out.cell 2
    by_cases hlt : k < p
    · have hi : (k : Int) < (p : Int) := by omega
      obtain ⟨g, hB4, hgb, hcl, hfz⟩ := own_at HOr.out (by omega)
      subst hB4
      have hg4 : g < w4.heap.size := own_lt HO4.out (by omega)
      have hck := hcl k hlt
      have hfk := hfz k
      obtain ⟨v, hv⟩ : ∃ v, qs.getD k 0 = v := ⟨_, rfl⟩
      rw [hv] at hck
      have hvb := HQ.out.at_ k
      change 0 ≤ qs.getD k 0 ∧ qs.getD k 0 ≤ 255 at hvb
      rw [hv] at hvb
      obtain ⟨v0, v1⟩ := hvb
      obtain ⟨u, hu⟩ : ∃ u, IntKind.u8.wrap (v + 1) = u := ⟨_, rfl⟩
      have hub : 0 ≤ u ∧ u ≤ 255 := by rw [← hu, IntKind.wrap_u8]; omega
      clear hcl hfz hv
      go_wp2
      go_roundw
      case rel =>
        refine ⟨k + 1, qs.set k u, by omega, by go_num, set_bytes HQ.out k u hub.1 hub.2, ?_, ?_, HKr.out.setCell (p := ⟨g, k, none⟩) hgb _⟩
        · have h := own_set HOr.out (by omega) k (.int .u8 u)
          rw [List.map_set]
          exact h
        · exact HXr.out.far (by omega) k _
      case measure => simp [intOf]; omega
    · obtain rfl : p = k := by omega
      have hd : decide (p < p) = false := by simp
      go_wp2_with (go_at_call 17; refine (stays_kept (some ⟨gb, 0, none⟩) n cb wy.heap.size yy w3 _ HR3.out HW3.out (by omega) HKr.out).mono ?_; rintro e w8 ⟨rfl, d8, rfl⟩)
      go_ret
      exact ⟨rfl, below_drewN (HB3.out.trans (HKr.out.mono HB3.out.size)) _⟩

theorem walk (a0 : Option Addr) (len0 cap0 : Nat) (z0 : List Int) (a1 : Bool) (a2 : Int) (w : World) (w0 : IsRow .u8 w a0 len0 cap0 z0) (w2 : (Lit.int .i64 a2).wf = true) :
    Calls Try.prog 4 #[.slice a0 len0 cap0, .bool a1, .int .i64 a2] w fun e w' => e = .returned (.bool true) ∧ Below w.heap.size w w' := by
  have h2 := bounds_i64 w2
  by_cases h : 400 < len0
  · exact walk_long a0 len0 cap0 a1 a2 w h
  · cases a1
    · exact walk_plain a0 len0 cap0 _ a2 w w0.row w0.bytes (by omega)
    · by_cases h6 : len0 < 6
      · exact walk_few a0 len0 cap0 _ a2 w w0.row w0.bytes (by omega) h6
      · exact walk_mend a0 len0 cap0 _ a2 _ w w0.row w0.bytes (by omega) (by omega) rfl h2.1 (by omega)

set_option maxRecDepth 100000 in
theorem lifted (os : Os) (started : os.Started) (H : Type) (enc : TypeId × Value → H) :
    ReturnsInHanded {} Try.checked os 4 .any (Rows.aduCutsSpec.pre6 enc Try.prog Try.f4 Rows.aduCutsRow.domain false) (Rows.aduCutsSpec.post enc Try.prog Try.f4 false true false false) := by
  refine returnsInHanded_of_change (C := Try.checked) own started (by kernel_rfl) Try.func4
    (ChangeSpec.witness6 (enc := enc) (C := Try.checked) false ⟨#[], #[.slice none 0 0, .bool false, .int .i64 0], []⟩ 8 (by kernel_rfl) (by kernel_rfl) (by kernel_rfl) (by kernel_rfl)) ?_
  intro W base args ds gs before hval0 hW hcnd _
  have hval : ∀ (j : Nat) t v, Try.f4.params[j]? = some t → args[j]? = some v → Value.okWide Try.prog W .any base t v := hval0
  have hW' := hW
  obtain ⟨p, q, hA0, hV, rfl, hfz, hnd⟩ := hW
  have hA : DataW.TrodAll enc Try.prog W 0 (fun _ => true) true Try.f4.params.toList args.toList ds p := hA0
  rw [Try.params4] at hA hval
  obtain ⟨v0, vs0, d0, ds0, p0, q0, hargs, rfl, rfl, h0, r0⟩ := trodAll_cons hA
  obtain ⟨v1, vs1, d1, ds1, p1, q1, rfl, rfl, rfl, h1, r1⟩ := trodAll_cons r0
  obtain ⟨v2, vs2, d2, ds2, p2, q2, rfl, rfl, rfl, h2, r2⟩ := trodAll_cons r1
  obtain ⟨rfl, rfl, rfl⟩ := trodAll_nil r2
  obtain rfl : args = #[v0, v1, v2] := by cases args; simp_all
  obtain ⟨rfl, rfl⟩ := trodVars_none hV
  obtain ⟨a0, len0, cap0, rfl⟩ := okWide_slice Try.underlying22 (hval 0 22 v0 rfl rfl)
  have k0 := h0
  have lt0 : ∀ x ∈ p0, x.block < W.heap.size := by obtain ⟨m, hm⟩ := k0; exact DataW.trod_lt m _ _ _ hm
  obtain ⟨z0, w0⟩ : ∃ zs, IsRow .u8 W a0 len0 cap0 zs := by
    obtain ⟨fuel, hf⟩ := h0
    rcases open_ints Try.underlying22 Try.underlying5 (by kernel_rfl) hf with ⟨hcs, _⟩ | ⟨x, l, c, zs, hcs, _, hl, hm, hz, _, hcell, hwz⟩
    · simp [Value.cells] at hcs
      obtain ⟨rfl, rfl, rfl⟩ := hcs
      exact ⟨[], .inl ⟨rfl, rfl, rfl, rfl⟩⟩
    · simp [Value.cells] at hcs
      obtain ⟨rfl, rfl, rfl⟩ := hcs
      exact ⟨zs, .inr ⟨_, rfl, hl, hm, by simpa using hz, hcell, hwz⟩⟩
  obtain ⟨a1, rfl, rfl, rfl⟩ := open_bool Try.underlying4 (hval 1 4 v1 rfl rfl) h1
  obtain ⟨a2, rfl, rfl, rfl, w2⟩ := open_int Try.underlying3 (hval 2 3 v2 rfl rfl) h2
  clear hA0 hval0
  refine (walk a0 len0 cap0 z0 a1 a2 W w0 w2).mono fun e W' ⟨he, bel⟩ => ?_
  subst he
  exact ⟨_, rfl, _, _, _, [], _, [], hW', trodAll_mk1 (shut_bool Try.underlying4 _), (trodAll_cons_mk (Below.trod laidOut (by kernel_rfl) (of_decide_eq_true (by kernel_rfl)) k0 bel lt0) (trodAll_cons_mk (shut_bool Try.underlying4 _) (trodAll_cons_mk (shut_int Try.underlying3 w2) trodAll_mk0))), rfl, bel.frame _, fun h => by cases h⟩

theorem over : Rows.aduCutsRow.holds Try.pinned (OpenSpec.ofChange Rows.aduCutsSpec) :=
  OpenClaim.holds_of_wide 4 Try.f4 rfl rfl rfl rfl rfl rfl rfl ⟨rfl, rfl, rfl, rfl, rfl⟩ rfl rfl rfl rfl rfl (by kernel_rfl) Try.func4 (by kernel_rfl)
    (of_decide_eq_true (by kernel_rfl)) (by unfold Func.isWrapper; first | (rw [if_pos (by decide +kernel)]; kernel_rfl) | (rw [if_neg (by decide +kernel)]; exact ⟨rfl, rfl⟩))
    (fun os started H enc _ => lifted os started H enc)

theorem proved : Rows.AduCutsSaid := over
#print axioms proved
end Go.Proofs.Ytoljpdamalcjeaa.aduCuts

/- Joined: RObj RTells RTells2. -/
import Derived.Test.YtielfekkonflfaaJTellBack2
import Derived.Test.YtielfekkonflfaaAskRight
import Derived.Test.YtielfekkonflfaaRBare
import Derived.Test.YtielfekkonflfaaPTellX
namespace Go.Proofs.Ytielfekkonflfaa
open Go.ChangeShapes Go.WideShapes Go.ChangeAt Go.RowKit
set_option linter.unusedVariables false
set_option linter.unusedSimpArgs false

def okO (co le nx : Int) (os : List Ob) : Prop := (1 ≤ co ∧ co ≤ 4) ∧ (0 ≤ le ∧ le ≤ 255) ∧ (0 ≤ nx ∧ nx ≤ 255) ∧ fitP os
instance (co le nx : Int) (os : List Ob) : Decidable (okO co le nx os) := by unfold okO; infer_instance

theorem fitP_at {os : List Ob} (h : fitP os) (k : Nat) (hk : k < os.length) : (0 ≤ (os.getD k ob0).1 ∧ (os.getD k ob0).1 ≤ 255) ∧ used (os.take (k + 1)) ≤ 246 := by
  refine ⟨h.1 _ ?_, Nat.le_trans (used_le os (k + 1)) h.2⟩
  rw [List.getD_eq_getElem?_getD, List.getElem?_eq_getElem hk]
  exact List.getElem_mem _

set_option maxRecDepth 100000 in
set_option maxHeartbeats 2000000 in
theorem robj_any (fn ex : Int) (bl wl : Nat) (at_ n v an orr co le : Int) (mo : Bool) (nx : Int) (ol : Nat) (BA WA OA : Option Addr) (bc wc oc : Nat) (os : List Ob) (w : World) (b : Bool) (hl : OL w w.heap.size OA ol os) (hol : ol ≤ 100000) (hz : ∀ o ∈ os, o.2.size ≤ 1000000) (hb : decide (okO co le nx os) = b) :
    Calls Try.prog 69 #[.agg #[.int .i64 fn, .int .i64 ex, .slice BA bl bc, .slice WA wl wc, .int .i64 at_, .int .i64 n, .int .u16 v, .int .u16 an, .int .u16 orr, .int .i64 co, .int .i64 le, .bool mo, .int .i64 nx, .slice OA ol oc]] w fun e w' => e = .returned (.bool b) ∧ Below w.heap.size w w' := by
  have hk0 : Below w.heap.size w (w.alloc (.cells #[.int .i64 fn, .int .i64 ex, .slice BA bl bc, .slice WA wl wc, .int .i64 at_, .int .i64 n, .int .u16 v, .int .u16 an, .int .u16 orr, .int .i64 co, .int .i64 le, .bool mo, .int .i64 nx, .slice OA ol oc] 28)) := (Below.refl _ _).alloc (Nat.le_refl _) _
  have HK := Lib.hid hk0
  have HL := Lib.hid (hl.below hk0)
  have HE := Lib.hid hl.len
  have HZ := Lib.hid hz
  have HB := Lib.hid hb
  clear hl hz hb hk0
  by_cases hco : 1 ≤ co ∧ co ≤ 4
  · obtain ⟨co1, co2⟩ := hco
    by_cases hle : 0 ≤ le ∧ le ≤ 255
    · have C1 := Lib.hid (fun W => byteful_yes le W hle.1 hle.2)
      by_cases hnx : 0 ≤ nx ∧ nx ≤ 255
      · have C2 := Lib.hid (fun W => byteful_yes nx W hnx.1 hnx.2)
        have HOK : Hid (okO co le nx os ↔ fitP os) := ⟨fun h => h.2.2.2, fun h => ⟨⟨co1, co2⟩, hle, hnx, h⟩⟩
        clear hle hnx
        go_enter Try.func69, Try.ntmps69
        go_wp2_with (first
          | (go_at_call 66; (with_reducible refine (C1.out _).mono ?_); rintro e w' ⟨rfl, rfl⟩)
          | (go_at_call 66; (with_reducible refine (C2.out _).mono ?_); rintro e w' ⟨rfl, rfl⟩))
        go_loop [3, 4] (fun s i => ∃ k U : Nat, k ≤ ol ∧ U ≤ 246 ∧ i = .int .i64 (k : Int) ∧ s = .int .i64 (7 + (U : Int)) ∧ Hid (used (os.take k) = U) ∧ Hid (∀ o ∈ os.take k, 0 ≤ o.1 ∧ o.1 ≤ 255)) (fun _ i => ol - (intOf i).toNat)
        case atStart => exact ⟨0, 0, by omega, by omega, rfl, by simp, Lib.hid (by simp [used]), Lib.hid (fun o ho => by simp at ho)⟩
        case round =>
          obtain ⟨k, U, hk, hU, rfl, rfl, HU, HI⟩ := hrel
          by_cases hlt : k < ol
          · have hi : (k : Int) < (ol : Int) := by omega
            obtain ⟨bA, offA, hAA, hbA, hc1, hc2⟩ := HL.out.at_ k hlt
            subst hAA
            have hkl : k < os.length := by rw [HE.out]; exact hlt
            have hmem : os.getD k ob0 ∈ os := by rw [List.getD_eq_getElem?_getD, List.getElem?_eq_getElem hkl]; exact List.getElem_mem _
            have hus := used_take os k hkl
            rw [HU.out] at hus
            have hzz := HZ.out _ hmem
            have HNO : Hid (¬ ((0 ≤ (os.getD k ob0).1 ∧ (os.getD k ob0).1 ≤ 255) ∧ used (os.take (k + 1)) ≤ 246) → b = false) := fun h => by
              rw [← HB.out]
              exact decide_eq_false fun h2 => h (fitP_at (HOK.out.1 h2) k hkl)
            have htk : os.take (k + 1) = os.take k ++ [os.getD k ob0] := by
              rw [List.take_succ_eq_append_getElem hkl]
              simp [List.getD_eq_getElem?_getD, hkl]
            rw [hus] at HNO
            obtain ⟨x, hx⟩ : ∃ x, (os.getD k ob0).1 = x := ⟨_, rfl⟩
            obtain ⟨S, hS⟩ : ∃ S, (os.getD k ob0).2 = S := ⟨_, rfl⟩
            have hp : os.getD k ob0 = (x, S) := by rw [← hx, ← hS]
            rw [hx] at hc1 HNO
            rw [hS] at hc2 HNO hus hzz
            rw [hp] at htk
            have HUS := Lib.hid hus
            have HTK := Lib.hid htk
            clear hx hS hp hmem hus htk hkl
            by_cases hxb : 0 ≤ x ∧ x ≤ 255
            · have C3 := Lib.hid (fun W => byteful_yes x W hxb.1 hxb.2)
              by_cases hs : 253 < S.size
              · have hs2 : (253 : Int) < (S.size : Int) := by omega
                have HF := Lib.hid (HNO.out (by omega))
                go_wp2_with (go_at_call 66; (with_reducible refine (C3.out _).mono ?_); rintro e w' ⟨rfl, rfl⟩)
                go_ret
                exact ⟨ret_bool HF.out.symm, HK.out⟩
              · have hs2 : ¬ (253 : Int) < (S.size : Int) := by omega
                by_cases hn : 246 < U + (2 + S.size)
                · have hn2 : (253 : Int) < 7 + (U : Int) + 2 + (S.size : Int) := by omega
                  have HF := Lib.hid (HNO.out (by omega))
                  go_wp2_with (go_at_call 66; (with_reducible refine (C3.out _).mono ?_); rintro e w' ⟨rfl, rfl⟩)
                  go_ret
                  exact ⟨ret_bool HF.out.symm, HK.out⟩
                · have hn2 : ¬ (253 : Int) < 7 + (U : Int) + 2 + (S.size : Int) := by omega
                  go_wp2_with (go_at_call 66; (with_reducible refine (C3.out _).mono ?_); rintro e w' ⟨rfl, rfl⟩)
                  go_round
                  case rel =>
                    refine ⟨k + 1, U + (2 + S.size), by omega, by omega, by go_num, by go_num, HUS, Lib.hid fun o ho => ?_⟩
                    rw [HTK.out] at ho
                    rcases List.mem_append.1 ho with ho | ho
                    · exact HI.out o ho
                    · rw [List.mem_singleton.1 ho]; exact hxb
                  case measure => simp [intOf]; omega
            · have C3 := Lib.hid (fun W => byteful_no x W (by omega))
              have HF := Lib.hid (HNO.out (fun h => hxb h.1))
              go_wp2_with (go_at_call 66; (with_reducible refine (C3.out _).mono ?_); rintro e w' ⟨rfl, rfl⟩)
              go_ret
              exact ⟨ret_bool HF.out.symm, HK.out⟩
          · obtain rfl : ol = k := by omega
            have hd : decide (ol < ol) = false := by simp
            have HT : Hid (b = true) := by
              rw [← HB.out]
              refine decide_eq_true (HOK.out.2 ⟨?_, ?_⟩)
              · have h := HI.out
                rwa [List.take_of_length_le (by rw [HE.out]; omega)] at h
              · have h := HU.out
                rw [List.take_of_length_le (by rw [HE.out]; omega)] at h
                omega
            go_wp2
            go_ret
            exact ⟨ret_bool HT.out.symm, HK.out⟩
      · have C2 := Lib.hid (fun W => byteful_no nx W (by omega))
        have HF : Hid (b = false) := by rw [← HB.out]; exact decide_eq_false fun h => hnx h.2.2.1
        go_enter Try.func69, Try.ntmps69
        go_wp2_with (first
          | (go_at_call 66; (with_reducible refine (C1.out _).mono ?_); rintro e w' ⟨rfl, rfl⟩)
          | (go_at_call 66; (with_reducible refine (C2.out _).mono ?_); rintro e w' ⟨rfl, rfl⟩))
        go_ret
        exact ⟨ret_bool HF.out.symm, HK.out⟩
    · have C1 := Lib.hid (fun W => byteful_no le W (by omega))
      have HF : Hid (b = false) := by rw [← HB.out]; exact decide_eq_false fun h => hle h.2.1
      go_enter Try.func69, Try.ntmps69
      go_wp2_with (go_at_call 66; (with_reducible refine (C1.out _).mono ?_); rintro e w' ⟨rfl, rfl⟩)
      go_ret
      exact ⟨ret_bool HF.out.symm, HK.out⟩
  · have HF : Hid (b = false) := by rw [← HB.out]; exact decide_eq_false fun h => hco h.1
    by_cases hc1 : co < 1
    · clear hco
      go_enter Try.func69, Try.ntmps69
      go_wp2
      go_ret
      exact ⟨ret_bool HF.out.symm, HK.out⟩
    · have hc2 : 4 < co := by omega
      clear hco
      go_enter Try.func69, Try.ntmps69
      go_wp2
      go_ret
      exact ⟨ret_bool HF.out.symm, HK.out⟩

set_option maxRecDepth 100000 in
set_option maxHeartbeats 2000000 in
theorem rtells_1 (bl wl : Nat) (at_ n v an orr co le : Int) (mo : Bool) (nx : Int) (ol : Nat) (BA WA OA : Option Addr) (bc wc oc : Nat) (fo : Bool) (w : World) :
    Calls Try.prog 37 #[.agg #[.int .i64 1, .int .i64 0, .slice BA bl bc, .slice WA wl wc, .int .i64 at_, .int .i64 n, .int .u16 v, .int .u16 an, .int .u16 orr, .int .i64 co, .int .i64 le, .bool mo, .int .i64 nx, .slice OA ol oc]] w fun e w' => e = .returned (.bool (decide (tellP 1 0 bl wl at_ n v an orr co le mo.toNat nx ol fo.toNat))) ∧ Below w.heap.size w w' := by
  by_cases hre : restT 1 bl wl at_ n v an orr co le mo.toNat nx ol
  · have CB := Lib.hid (fun W => rbare_1 bl wl at_ n v an orr co le mo nx ol BA WA OA bc wc oc W)
    rw [decide_eq_true hre] at CB
    have HRE := Lib.hid hre
    have h0 : at_ = 0 ∨ 1 = 5 ∨ 1 = 6 ∨ 1 = 15 ∨ 1 = 16 ∨ 1 = 22 := by unfold restT at hre; omega
    clear hre
    go_enter Try.func37, Try.ntmps37
    go_wp2_with (first
        | (go_at_call 65
           refine (CB.out _).mono ?_
           rintro e w4 ⟨rfl, hb4⟩
           have HB4 : Hid (Below w.heap.size w w4) := ((Below.refl _ _).alloc (Nat.le_refl _) _).trans (hb4.mono (by simp))
           have hk4 : Below (w.heap.size + 1) (w.alloc (.cells #[.int .i64 1, .int .i64 0, .slice BA bl bc, .slice WA wl wc, .int .i64 at_, .int .i64 n, .int .u16 v, .int .u16 an, .int .u16 orr, .int .i64 co, .int .i64 le, .bool mo, .int .i64 nx, .slice OA ol oc] 28)) w4 := by
             rwa [show (w.alloc (.cells #[.int .i64 1, .int .i64 0, .slice BA bl bc, .slice WA wl wc, .int .i64 at_, .int .i64 n, .int .u16 v, .int .u16 an, .int .u16 orr, .int .i64 co, .int .i64 le, .bool mo, .int .i64 nx, .slice OA ol oc] 28)).heap.size = w.heap.size + 1 by simp] at hb4
           have hbx := box14 _ _ _ _ _ _ _ _ _ _ _ _ _ _ _ w w4 hk4
           have hz4 : w.heap.size < w4.heap.size := hbx.lt
           obtain ⟨hc0, hc1, hc2, hc3, hc4, hc5, hc6, hc7, hc8, hc9, hc10, hc11, hc12, hc13⟩ := cells14 hbx
           clear hb4 hk4 hbx)
        | (go_at_call 67; refine (rmost_any 1 _).mono ?_; rintro e w' ⟨rfl, rfl⟩))
    all_goals
      go_ret
      refine ⟨ret_bool ?_, HB4.out⟩
      first
        | exact (decide_eq_false fun h => by have h2 := (tell_nought.1 h).2.2.1; have h3 := (tell_nought.1 h).2.1; unfold rangT at h2; omega).symm
        | exact (decide_eq_true (tell_nought.2 ⟨rfl, by omega, by unfold rangT; omega, HRE.out⟩)).symm
        | exact decide_eq_decide.2 ⟨fun h => tell_nought.2 ⟨rfl, by omega, by unfold rangT; omega, HRE.out⟩, fun h => by have h2 := (tell_nought.1 h).2.2.1; unfold rangT at h2; omega⟩
  · have CB := Lib.hid (fun W => rbare_1  bl wl at_ n v an orr co le mo nx ol BA WA OA bc wc oc W)
    rw [decide_eq_false hre] at CB
    have HF : Hid (decide (tellP 1 0 bl wl at_ n v an orr co le mo.toNat nx ol fo.toNat) = false) := decide_eq_false fun h => hre (tell_nought.1 h).2.2.2
    rw [HF.out]
    clear hre
    go_enter Try.func37, Try.ntmps37
    go_wp2_with (first
    | (go_at_call 65
       refine (CB.out _).mono ?_
       rintro e w4 ⟨rfl, hb4⟩
       have HB4 : Hid (Below w.heap.size w w4) := ((Below.refl _ _).alloc (Nat.le_refl _) _).trans (hb4.mono (by simp))
       have hk4 : Below (w.heap.size + 1) (w.alloc (.cells #[.int .i64 1, .int .i64 0, .slice BA bl bc, .slice WA wl wc, .int .i64 at_, .int .i64 n, .int .u16 v, .int .u16 an, .int .u16 orr, .int .i64 co, .int .i64 le, .bool mo, .int .i64 nx, .slice OA ol oc] 28)) w4 := by
         rwa [show (w.alloc (.cells #[.int .i64 1, .int .i64 0, .slice BA bl bc, .slice WA wl wc, .int .i64 at_, .int .i64 n, .int .u16 v, .int .u16 an, .int .u16 orr, .int .i64 co, .int .i64 le, .bool mo, .int .i64 nx, .slice OA ol oc] 28)).heap.size = w.heap.size + 1 by simp] at hb4
       have hbx := box14 _ _ _ _ _ _ _ _ _ _ _ _ _ _ _ w w4 hk4
       have hz4 : w.heap.size < w4.heap.size := hbx.lt
       obtain ⟨hc0, hc1, hc2, hc3, hc4, hc5, hc6, hc7, hc8, hc9, hc10, hc11, hc12, hc13⟩ := cells14 hbx
       clear hb4 hk4 hbx))
    go_ret
    exact ⟨rfl, HB4.out⟩

set_option maxRecDepth 100000 in
set_option maxHeartbeats 2000000 in
theorem rtells_2 (bl wl : Nat) (at_ n v an orr co le : Int) (mo : Bool) (nx : Int) (ol : Nat) (BA WA OA : Option Addr) (bc wc oc : Nat) (fo : Bool) (w : World) :
    Calls Try.prog 37 #[.agg #[.int .i64 2, .int .i64 0, .slice BA bl bc, .slice WA wl wc, .int .i64 at_, .int .i64 n, .int .u16 v, .int .u16 an, .int .u16 orr, .int .i64 co, .int .i64 le, .bool mo, .int .i64 nx, .slice OA ol oc]] w fun e w' => e = .returned (.bool (decide (tellP 2 0 bl wl at_ n v an orr co le mo.toNat nx ol fo.toNat))) ∧ Below w.heap.size w w' := by
  by_cases hre : restT 2 bl wl at_ n v an orr co le mo.toNat nx ol
  · have CB := Lib.hid (fun W => rbare_2 bl wl at_ n v an orr co le mo nx ol BA WA OA bc wc oc W)
    rw [decide_eq_true hre] at CB
    have HRE := Lib.hid hre
    have h0 : at_ = 0 ∨ 2 = 5 ∨ 2 = 6 ∨ 2 = 15 ∨ 2 = 16 ∨ 2 = 22 := by unfold restT at hre; omega
    clear hre
    go_enter Try.func37, Try.ntmps37
    go_wp2_with (first
        | (go_at_call 65
           refine (CB.out _).mono ?_
           rintro e w4 ⟨rfl, hb4⟩
           have HB4 : Hid (Below w.heap.size w w4) := ((Below.refl _ _).alloc (Nat.le_refl _) _).trans (hb4.mono (by simp))
           have hk4 : Below (w.heap.size + 1) (w.alloc (.cells #[.int .i64 2, .int .i64 0, .slice BA bl bc, .slice WA wl wc, .int .i64 at_, .int .i64 n, .int .u16 v, .int .u16 an, .int .u16 orr, .int .i64 co, .int .i64 le, .bool mo, .int .i64 nx, .slice OA ol oc] 28)) w4 := by
             rwa [show (w.alloc (.cells #[.int .i64 2, .int .i64 0, .slice BA bl bc, .slice WA wl wc, .int .i64 at_, .int .i64 n, .int .u16 v, .int .u16 an, .int .u16 orr, .int .i64 co, .int .i64 le, .bool mo, .int .i64 nx, .slice OA ol oc] 28)).heap.size = w.heap.size + 1 by simp] at hb4
           have hbx := box14 _ _ _ _ _ _ _ _ _ _ _ _ _ _ _ w w4 hk4
           have hz4 : w.heap.size < w4.heap.size := hbx.lt
           obtain ⟨hc0, hc1, hc2, hc3, hc4, hc5, hc6, hc7, hc8, hc9, hc10, hc11, hc12, hc13⟩ := cells14 hbx
           clear hb4 hk4 hbx)
        | (go_at_call 67; refine (rmost_any 2 _).mono ?_; rintro e w' ⟨rfl, rfl⟩))
    all_goals
      go_ret
      refine ⟨ret_bool ?_, HB4.out⟩
      first
        | exact (decide_eq_false fun h => by have h2 := (tell_nought.1 h).2.2.1; have h3 := (tell_nought.1 h).2.1; unfold rangT at h2; omega).symm
        | exact (decide_eq_true (tell_nought.2 ⟨rfl, by omega, by unfold rangT; omega, HRE.out⟩)).symm
        | exact decide_eq_decide.2 ⟨fun h => tell_nought.2 ⟨rfl, by omega, by unfold rangT; omega, HRE.out⟩, fun h => by have h2 := (tell_nought.1 h).2.2.1; unfold rangT at h2; omega⟩
  · have CB := Lib.hid (fun W => rbare_2  bl wl at_ n v an orr co le mo nx ol BA WA OA bc wc oc W)
    rw [decide_eq_false hre] at CB
    have HF : Hid (decide (tellP 2 0 bl wl at_ n v an orr co le mo.toNat nx ol fo.toNat) = false) := decide_eq_false fun h => hre (tell_nought.1 h).2.2.2
    rw [HF.out]
    clear hre
    go_enter Try.func37, Try.ntmps37
    go_wp2_with (first
    | (go_at_call 65
       refine (CB.out _).mono ?_
       rintro e w4 ⟨rfl, hb4⟩
       have HB4 : Hid (Below w.heap.size w w4) := ((Below.refl _ _).alloc (Nat.le_refl _) _).trans (hb4.mono (by simp))
       have hk4 : Below (w.heap.size + 1) (w.alloc (.cells #[.int .i64 2, .int .i64 0, .slice BA bl bc, .slice WA wl wc, .int .i64 at_, .int .i64 n, .int .u16 v, .int .u16 an, .int .u16 orr, .int .i64 co, .int .i64 le, .bool mo, .int .i64 nx, .slice OA ol oc] 28)) w4 := by
         rwa [show (w.alloc (.cells #[.int .i64 2, .int .i64 0, .slice BA bl bc, .slice WA wl wc, .int .i64 at_, .int .i64 n, .int .u16 v, .int .u16 an, .int .u16 orr, .int .i64 co, .int .i64 le, .bool mo, .int .i64 nx, .slice OA ol oc] 28)).heap.size = w.heap.size + 1 by simp] at hb4
       have hbx := box14 _ _ _ _ _ _ _ _ _ _ _ _ _ _ _ w w4 hk4
       have hz4 : w.heap.size < w4.heap.size := hbx.lt
       obtain ⟨hc0, hc1, hc2, hc3, hc4, hc5, hc6, hc7, hc8, hc9, hc10, hc11, hc12, hc13⟩ := cells14 hbx
       clear hb4 hk4 hbx))
    go_ret
    exact ⟨rfl, HB4.out⟩

set_option maxRecDepth 100000 in
set_option maxHeartbeats 2000000 in
theorem rtells_3 (bl wl : Nat) (at_ n v an orr co le : Int) (mo : Bool) (nx : Int) (ol : Nat) (BA WA OA : Option Addr) (bc wc oc : Nat) (fo : Bool) (w : World) :
    Calls Try.prog 37 #[.agg #[.int .i64 3, .int .i64 0, .slice BA bl bc, .slice WA wl wc, .int .i64 at_, .int .i64 n, .int .u16 v, .int .u16 an, .int .u16 orr, .int .i64 co, .int .i64 le, .bool mo, .int .i64 nx, .slice OA ol oc]] w fun e w' => e = .returned (.bool (decide (tellP 3 0 bl wl at_ n v an orr co le mo.toNat nx ol fo.toNat))) ∧ Below w.heap.size w w' := by
  by_cases hre : restT 3 bl wl at_ n v an orr co le mo.toNat nx ol
  · have CB := Lib.hid (fun W => rbare_3 bl wl at_ n v an orr co le mo nx ol BA WA OA bc wc oc W)
    rw [decide_eq_true hre] at CB
    have HRE := Lib.hid hre
    have h0 : at_ = 0 ∨ 3 = 5 ∨ 3 = 6 ∨ 3 = 15 ∨ 3 = 16 ∨ 3 = 22 := by unfold restT at hre; omega
    clear hre
    go_enter Try.func37, Try.ntmps37
    go_wp2_with (first
        | (go_at_call 65
           refine (CB.out _).mono ?_
           rintro e w4 ⟨rfl, hb4⟩
           have HB4 : Hid (Below w.heap.size w w4) := ((Below.refl _ _).alloc (Nat.le_refl _) _).trans (hb4.mono (by simp))
           have hk4 : Below (w.heap.size + 1) (w.alloc (.cells #[.int .i64 3, .int .i64 0, .slice BA bl bc, .slice WA wl wc, .int .i64 at_, .int .i64 n, .int .u16 v, .int .u16 an, .int .u16 orr, .int .i64 co, .int .i64 le, .bool mo, .int .i64 nx, .slice OA ol oc] 28)) w4 := by
             rwa [show (w.alloc (.cells #[.int .i64 3, .int .i64 0, .slice BA bl bc, .slice WA wl wc, .int .i64 at_, .int .i64 n, .int .u16 v, .int .u16 an, .int .u16 orr, .int .i64 co, .int .i64 le, .bool mo, .int .i64 nx, .slice OA ol oc] 28)).heap.size = w.heap.size + 1 by simp] at hb4
           have hbx := box14 _ _ _ _ _ _ _ _ _ _ _ _ _ _ _ w w4 hk4
           have hz4 : w.heap.size < w4.heap.size := hbx.lt
           obtain ⟨hc0, hc1, hc2, hc3, hc4, hc5, hc6, hc7, hc8, hc9, hc10, hc11, hc12, hc13⟩ := cells14 hbx
           clear hb4 hk4 hbx)
        | (go_at_call 67; refine (rmost_any 3 _).mono ?_; rintro e w' ⟨rfl, rfl⟩))
    all_goals
      go_ret
      refine ⟨ret_bool ?_, HB4.out⟩
      first
        | exact (decide_eq_false fun h => by have h2 := (tell_nought.1 h).2.2.1; have h3 := (tell_nought.1 h).2.1; unfold rangT at h2; omega).symm
        | exact (decide_eq_true (tell_nought.2 ⟨rfl, by omega, by unfold rangT; omega, HRE.out⟩)).symm
        | exact decide_eq_decide.2 ⟨fun h => tell_nought.2 ⟨rfl, by omega, by unfold rangT; omega, HRE.out⟩, fun h => by have h2 := (tell_nought.1 h).2.2.1; unfold rangT at h2; omega⟩
  · have CB := Lib.hid (fun W => rbare_3  bl wl at_ n v an orr co le mo nx ol BA WA OA bc wc oc W)
    rw [decide_eq_false hre] at CB
    have HF : Hid (decide (tellP 3 0 bl wl at_ n v an orr co le mo.toNat nx ol fo.toNat) = false) := decide_eq_false fun h => hre (tell_nought.1 h).2.2.2
    rw [HF.out]
    clear hre
    go_enter Try.func37, Try.ntmps37
    go_wp2_with (first
    | (go_at_call 65
       refine (CB.out _).mono ?_
       rintro e w4 ⟨rfl, hb4⟩
       have HB4 : Hid (Below w.heap.size w w4) := ((Below.refl _ _).alloc (Nat.le_refl _) _).trans (hb4.mono (by simp))
       have hk4 : Below (w.heap.size + 1) (w.alloc (.cells #[.int .i64 3, .int .i64 0, .slice BA bl bc, .slice WA wl wc, .int .i64 at_, .int .i64 n, .int .u16 v, .int .u16 an, .int .u16 orr, .int .i64 co, .int .i64 le, .bool mo, .int .i64 nx, .slice OA ol oc] 28)) w4 := by
         rwa [show (w.alloc (.cells #[.int .i64 3, .int .i64 0, .slice BA bl bc, .slice WA wl wc, .int .i64 at_, .int .i64 n, .int .u16 v, .int .u16 an, .int .u16 orr, .int .i64 co, .int .i64 le, .bool mo, .int .i64 nx, .slice OA ol oc] 28)).heap.size = w.heap.size + 1 by simp] at hb4
       have hbx := box14 _ _ _ _ _ _ _ _ _ _ _ _ _ _ _ w w4 hk4
       have hz4 : w.heap.size < w4.heap.size := hbx.lt
       obtain ⟨hc0, hc1, hc2, hc3, hc4, hc5, hc6, hc7, hc8, hc9, hc10, hc11, hc12, hc13⟩ := cells14 hbx
       clear hb4 hk4 hbx))
    go_ret
    exact ⟨rfl, HB4.out⟩

set_option maxRecDepth 100000 in
set_option maxHeartbeats 2000000 in
theorem rtells_4 (bl wl : Nat) (at_ n v an orr co le : Int) (mo : Bool) (nx : Int) (ol : Nat) (BA WA OA : Option Addr) (bc wc oc : Nat) (fo : Bool) (w : World) :
    Calls Try.prog 37 #[.agg #[.int .i64 4, .int .i64 0, .slice BA bl bc, .slice WA wl wc, .int .i64 at_, .int .i64 n, .int .u16 v, .int .u16 an, .int .u16 orr, .int .i64 co, .int .i64 le, .bool mo, .int .i64 nx, .slice OA ol oc]] w fun e w' => e = .returned (.bool (decide (tellP 4 0 bl wl at_ n v an orr co le mo.toNat nx ol fo.toNat))) ∧ Below w.heap.size w w' := by
  by_cases hre : restT 4 bl wl at_ n v an orr co le mo.toNat nx ol
  · have CB := Lib.hid (fun W => rbare_4 bl wl at_ n v an orr co le mo nx ol BA WA OA bc wc oc W)
    rw [decide_eq_true hre] at CB
    have HRE := Lib.hid hre
    have h0 : at_ = 0 ∨ 4 = 5 ∨ 4 = 6 ∨ 4 = 15 ∨ 4 = 16 ∨ 4 = 22 := by unfold restT at hre; omega
    clear hre
    go_enter Try.func37, Try.ntmps37
    go_wp2_with (first
        | (go_at_call 65
           refine (CB.out _).mono ?_
           rintro e w4 ⟨rfl, hb4⟩
           have HB4 : Hid (Below w.heap.size w w4) := ((Below.refl _ _).alloc (Nat.le_refl _) _).trans (hb4.mono (by simp))
           have hk4 : Below (w.heap.size + 1) (w.alloc (.cells #[.int .i64 4, .int .i64 0, .slice BA bl bc, .slice WA wl wc, .int .i64 at_, .int .i64 n, .int .u16 v, .int .u16 an, .int .u16 orr, .int .i64 co, .int .i64 le, .bool mo, .int .i64 nx, .slice OA ol oc] 28)) w4 := by
             rwa [show (w.alloc (.cells #[.int .i64 4, .int .i64 0, .slice BA bl bc, .slice WA wl wc, .int .i64 at_, .int .i64 n, .int .u16 v, .int .u16 an, .int .u16 orr, .int .i64 co, .int .i64 le, .bool mo, .int .i64 nx, .slice OA ol oc] 28)).heap.size = w.heap.size + 1 by simp] at hb4
           have hbx := box14 _ _ _ _ _ _ _ _ _ _ _ _ _ _ _ w w4 hk4
           have hz4 : w.heap.size < w4.heap.size := hbx.lt
           obtain ⟨hc0, hc1, hc2, hc3, hc4, hc5, hc6, hc7, hc8, hc9, hc10, hc11, hc12, hc13⟩ := cells14 hbx
           clear hb4 hk4 hbx)
        | (go_at_call 67; refine (rmost_any 4 _).mono ?_; rintro e w' ⟨rfl, rfl⟩))
    all_goals
      go_ret
      refine ⟨ret_bool ?_, HB4.out⟩
      first
        | exact (decide_eq_false fun h => by have h2 := (tell_nought.1 h).2.2.1; have h3 := (tell_nought.1 h).2.1; unfold rangT at h2; omega).symm
        | exact (decide_eq_true (tell_nought.2 ⟨rfl, by omega, by unfold rangT; omega, HRE.out⟩)).symm
        | exact decide_eq_decide.2 ⟨fun h => tell_nought.2 ⟨rfl, by omega, by unfold rangT; omega, HRE.out⟩, fun h => by have h2 := (tell_nought.1 h).2.2.1; unfold rangT at h2; omega⟩
  · have CB := Lib.hid (fun W => rbare_4  bl wl at_ n v an orr co le mo nx ol BA WA OA bc wc oc W)
    rw [decide_eq_false hre] at CB
    have HF : Hid (decide (tellP 4 0 bl wl at_ n v an orr co le mo.toNat nx ol fo.toNat) = false) := decide_eq_false fun h => hre (tell_nought.1 h).2.2.2
    rw [HF.out]
    clear hre
    go_enter Try.func37, Try.ntmps37
    go_wp2_with (first
    | (go_at_call 65
       refine (CB.out _).mono ?_
       rintro e w4 ⟨rfl, hb4⟩
       have HB4 : Hid (Below w.heap.size w w4) := ((Below.refl _ _).alloc (Nat.le_refl _) _).trans (hb4.mono (by simp))
       have hk4 : Below (w.heap.size + 1) (w.alloc (.cells #[.int .i64 4, .int .i64 0, .slice BA bl bc, .slice WA wl wc, .int .i64 at_, .int .i64 n, .int .u16 v, .int .u16 an, .int .u16 orr, .int .i64 co, .int .i64 le, .bool mo, .int .i64 nx, .slice OA ol oc] 28)) w4 := by
         rwa [show (w.alloc (.cells #[.int .i64 4, .int .i64 0, .slice BA bl bc, .slice WA wl wc, .int .i64 at_, .int .i64 n, .int .u16 v, .int .u16 an, .int .u16 orr, .int .i64 co, .int .i64 le, .bool mo, .int .i64 nx, .slice OA ol oc] 28)).heap.size = w.heap.size + 1 by simp] at hb4
       have hbx := box14 _ _ _ _ _ _ _ _ _ _ _ _ _ _ _ w w4 hk4
       have hz4 : w.heap.size < w4.heap.size := hbx.lt
       obtain ⟨hc0, hc1, hc2, hc3, hc4, hc5, hc6, hc7, hc8, hc9, hc10, hc11, hc12, hc13⟩ := cells14 hbx
       clear hb4 hk4 hbx))
    go_ret
    exact ⟨rfl, HB4.out⟩

set_option maxRecDepth 100000 in
set_option maxHeartbeats 2000000 in
theorem rtells_5 (bl wl : Nat) (at_ n v an orr co le : Int) (mo : Bool) (nx : Int) (ol : Nat) (BA WA OA : Option Addr) (bc wc oc : Nat) (fo : Bool) (w : World) (v0 : 0 ≤ v) :
    Calls Try.prog 37 #[.agg #[.int .i64 5, .int .i64 0, .slice BA bl bc, .slice WA wl wc, .int .i64 at_, .int .i64 n, .int .u16 v, .int .u16 an, .int .u16 orr, .int .i64 co, .int .i64 le, .bool mo, .int .i64 nx, .slice OA ol oc]] w fun e w' => e = .returned (.bool (decide (tellP 5 0 bl wl at_ n v an orr co le mo.toNat nx ol fo.toNat))) ∧ Below w.heap.size w w' := by
  by_cases hre : restT 5 bl wl at_ n v an orr co le mo.toNat nx ol
  · have CB := Lib.hid (fun W => rbare_5 bl wl at_ n v an orr co le mo nx ol BA WA OA bc wc oc W)
    rw [decide_eq_true hre] at CB
    have HRE := Lib.hid hre
    have h0 : at_ = 0 ∨ 5 = 5 ∨ 5 = 6 ∨ 5 = 15 ∨ 5 = 16 ∨ 5 = 22 := by unfold restT at hre; omega
    clear hre
    by_cases hat : 0 ≤ at_ ∧ at_ ≤ 65535
    · have CP := Lib.hid (fun W => place_yes at_ W hat.1 hat.2)
      go_enter Try.func37, Try.ntmps37
      go_wp2_with (first
          | (go_at_call 65
             refine (CB.out _).mono ?_
             rintro e w4 ⟨rfl, hb4⟩
             have HB4 : Hid (Below w.heap.size w w4) := ((Below.refl _ _).alloc (Nat.le_refl _) _).trans (hb4.mono (by simp))
             have hk4 : Below (w.heap.size + 1) (w.alloc (.cells #[.int .i64 5, .int .i64 0, .slice BA bl bc, .slice WA wl wc, .int .i64 at_, .int .i64 n, .int .u16 v, .int .u16 an, .int .u16 orr, .int .i64 co, .int .i64 le, .bool mo, .int .i64 nx, .slice OA ol oc] 28)) w4 := by
               rwa [show (w.alloc (.cells #[.int .i64 5, .int .i64 0, .slice BA bl bc, .slice WA wl wc, .int .i64 at_, .int .i64 n, .int .u16 v, .int .u16 an, .int .u16 orr, .int .i64 co, .int .i64 le, .bool mo, .int .i64 nx, .slice OA ol oc] 28)).heap.size = w.heap.size + 1 by simp] at hb4
             have hbx := box14 _ _ _ _ _ _ _ _ _ _ _ _ _ _ _ w w4 hk4
             have hz4 : w.heap.size < w4.heap.size := hbx.lt
             obtain ⟨hc0, hc1, hc2, hc3, hc4, hc5, hc6, hc7, hc8, hc9, hc10, hc11, hc12, hc13⟩ := cells14 hbx
             clear hb4 hk4 hbx)
          | (go_at_call 67; refine (rmost_any 5 _).mono ?_; rintro e w' ⟨rfl, rfl⟩)
          | (go_at_call 68; (with_reducible refine (CP.out _).mono ?_); rintro e w' ⟨rfl, rfl⟩))
      all_goals
        go_ret
        refine ⟨ret_bool ?_, HB4.out⟩
        first
          | exact (decide_eq_false fun h => by have h2 := (tell_nought.1 h).2.2.1; have h3 := (tell_nought.1 h).2.1; unfold rangT at h2; omega).symm
          | exact (decide_eq_true (tell_nought.2 ⟨rfl, by omega, by unfold rangT; omega, HRE.out⟩)).symm
          | exact decide_eq_decide.2 ⟨fun h => tell_nought.2 ⟨rfl, by omega, by unfold rangT; omega, HRE.out⟩, fun h => by have h2 := (tell_nought.1 h).2.2.1; unfold rangT at h2; omega⟩
    · have CP := Lib.hid (fun W => place_no at_ W (by omega))
      go_enter Try.func37, Try.ntmps37
      go_wp2_with (first
          | (go_at_call 65
             refine (CB.out _).mono ?_
             rintro e w4 ⟨rfl, hb4⟩
             have HB4 : Hid (Below w.heap.size w w4) := ((Below.refl _ _).alloc (Nat.le_refl _) _).trans (hb4.mono (by simp))
             have hk4 : Below (w.heap.size + 1) (w.alloc (.cells #[.int .i64 5, .int .i64 0, .slice BA bl bc, .slice WA wl wc, .int .i64 at_, .int .i64 n, .int .u16 v, .int .u16 an, .int .u16 orr, .int .i64 co, .int .i64 le, .bool mo, .int .i64 nx, .slice OA ol oc] 28)) w4 := by
               rwa [show (w.alloc (.cells #[.int .i64 5, .int .i64 0, .slice BA bl bc, .slice WA wl wc, .int .i64 at_, .int .i64 n, .int .u16 v, .int .u16 an, .int .u16 orr, .int .i64 co, .int .i64 le, .bool mo, .int .i64 nx, .slice OA ol oc] 28)).heap.size = w.heap.size + 1 by simp] at hb4
             have hbx := box14 _ _ _ _ _ _ _ _ _ _ _ _ _ _ _ w w4 hk4
             have hz4 : w.heap.size < w4.heap.size := hbx.lt
             obtain ⟨hc0, hc1, hc2, hc3, hc4, hc5, hc6, hc7, hc8, hc9, hc10, hc11, hc12, hc13⟩ := cells14 hbx
             clear hb4 hk4 hbx)
          | (go_at_call 67; refine (rmost_any 5 _).mono ?_; rintro e w' ⟨rfl, rfl⟩)
          | (go_at_call 68; (with_reducible refine (CP.out _).mono ?_); rintro e w' ⟨rfl, rfl⟩))
      all_goals
        go_ret
        refine ⟨ret_bool ?_, HB4.out⟩
        first
          | exact (decide_eq_false fun h => by have h2 := (tell_nought.1 h).2.2.1; have h3 := (tell_nought.1 h).2.1; unfold rangT at h2; omega).symm
          | exact (decide_eq_true (tell_nought.2 ⟨rfl, by omega, by unfold rangT; omega, HRE.out⟩)).symm
          | exact decide_eq_decide.2 ⟨fun h => tell_nought.2 ⟨rfl, by omega, by unfold rangT; omega, HRE.out⟩, fun h => by have h2 := (tell_nought.1 h).2.2.1; unfold rangT at h2; omega⟩
  · have CB := Lib.hid (fun W => rbare_5  bl wl at_ n v an orr co le mo nx ol BA WA OA bc wc oc W)
    rw [decide_eq_false hre] at CB
    have HF : Hid (decide (tellP 5 0 bl wl at_ n v an orr co le mo.toNat nx ol fo.toNat) = false) := decide_eq_false fun h => hre (tell_nought.1 h).2.2.2
    rw [HF.out]
    clear hre
    go_enter Try.func37, Try.ntmps37
    go_wp2_with (first
    | (go_at_call 65
       refine (CB.out _).mono ?_
       rintro e w4 ⟨rfl, hb4⟩
       have HB4 : Hid (Below w.heap.size w w4) := ((Below.refl _ _).alloc (Nat.le_refl _) _).trans (hb4.mono (by simp))
       have hk4 : Below (w.heap.size + 1) (w.alloc (.cells #[.int .i64 5, .int .i64 0, .slice BA bl bc, .slice WA wl wc, .int .i64 at_, .int .i64 n, .int .u16 v, .int .u16 an, .int .u16 orr, .int .i64 co, .int .i64 le, .bool mo, .int .i64 nx, .slice OA ol oc] 28)) w4 := by
         rwa [show (w.alloc (.cells #[.int .i64 5, .int .i64 0, .slice BA bl bc, .slice WA wl wc, .int .i64 at_, .int .i64 n, .int .u16 v, .int .u16 an, .int .u16 orr, .int .i64 co, .int .i64 le, .bool mo, .int .i64 nx, .slice OA ol oc] 28)).heap.size = w.heap.size + 1 by simp] at hb4
       have hbx := box14 _ _ _ _ _ _ _ _ _ _ _ _ _ _ _ w w4 hk4
       have hz4 : w.heap.size < w4.heap.size := hbx.lt
       obtain ⟨hc0, hc1, hc2, hc3, hc4, hc5, hc6, hc7, hc8, hc9, hc10, hc11, hc12, hc13⟩ := cells14 hbx
       clear hb4 hk4 hbx))
    go_ret
    exact ⟨rfl, HB4.out⟩

set_option maxRecDepth 100000 in
set_option maxHeartbeats 2000000 in
theorem rtells_6 (bl wl : Nat) (at_ n v an orr co le : Int) (mo : Bool) (nx : Int) (ol : Nat) (BA WA OA : Option Addr) (bc wc oc : Nat) (fo : Bool) (w : World) :
    Calls Try.prog 37 #[.agg #[.int .i64 6, .int .i64 0, .slice BA bl bc, .slice WA wl wc, .int .i64 at_, .int .i64 n, .int .u16 v, .int .u16 an, .int .u16 orr, .int .i64 co, .int .i64 le, .bool mo, .int .i64 nx, .slice OA ol oc]] w fun e w' => e = .returned (.bool (decide (tellP 6 0 bl wl at_ n v an orr co le mo.toNat nx ol fo.toNat))) ∧ Below w.heap.size w w' := by
  by_cases hre : restT 6 bl wl at_ n v an orr co le mo.toNat nx ol
  · have CB := Lib.hid (fun W => rbare_6 bl wl at_ n v an orr co le mo nx ol BA WA OA bc wc oc W)
    rw [decide_eq_true hre] at CB
    have HRE := Lib.hid hre
    have h0 : at_ = 0 ∨ 6 = 5 ∨ 6 = 6 ∨ 6 = 15 ∨ 6 = 16 ∨ 6 = 22 := by unfold restT at hre; omega
    clear hre
    by_cases hat : 0 ≤ at_ ∧ at_ ≤ 65535
    · have CP := Lib.hid (fun W => place_yes at_ W hat.1 hat.2)
      go_enter Try.func37, Try.ntmps37
      go_wp2_with (first
          | (go_at_call 65
             refine (CB.out _).mono ?_
             rintro e w4 ⟨rfl, hb4⟩
             have HB4 : Hid (Below w.heap.size w w4) := ((Below.refl _ _).alloc (Nat.le_refl _) _).trans (hb4.mono (by simp))
             have hk4 : Below (w.heap.size + 1) (w.alloc (.cells #[.int .i64 6, .int .i64 0, .slice BA bl bc, .slice WA wl wc, .int .i64 at_, .int .i64 n, .int .u16 v, .int .u16 an, .int .u16 orr, .int .i64 co, .int .i64 le, .bool mo, .int .i64 nx, .slice OA ol oc] 28)) w4 := by
               rwa [show (w.alloc (.cells #[.int .i64 6, .int .i64 0, .slice BA bl bc, .slice WA wl wc, .int .i64 at_, .int .i64 n, .int .u16 v, .int .u16 an, .int .u16 orr, .int .i64 co, .int .i64 le, .bool mo, .int .i64 nx, .slice OA ol oc] 28)).heap.size = w.heap.size + 1 by simp] at hb4
             have hbx := box14 _ _ _ _ _ _ _ _ _ _ _ _ _ _ _ w w4 hk4
             have hz4 : w.heap.size < w4.heap.size := hbx.lt
             obtain ⟨hc0, hc1, hc2, hc3, hc4, hc5, hc6, hc7, hc8, hc9, hc10, hc11, hc12, hc13⟩ := cells14 hbx
             clear hb4 hk4 hbx)
          | (go_at_call 67; refine (rmost_any 6 _).mono ?_; rintro e w' ⟨rfl, rfl⟩)
          | (go_at_call 68; (with_reducible refine (CP.out _).mono ?_); rintro e w' ⟨rfl, rfl⟩))
      all_goals
        go_ret
        refine ⟨ret_bool ?_, HB4.out⟩
        first
          | exact (decide_eq_false fun h => by have h2 := (tell_nought.1 h).2.2.1; have h3 := (tell_nought.1 h).2.1; unfold rangT at h2; omega).symm
          | exact (decide_eq_true (tell_nought.2 ⟨rfl, by omega, by unfold rangT; omega, HRE.out⟩)).symm
          | exact decide_eq_decide.2 ⟨fun h => tell_nought.2 ⟨rfl, by omega, by unfold rangT; omega, HRE.out⟩, fun h => by have h2 := (tell_nought.1 h).2.2.1; unfold rangT at h2; omega⟩
    · have CP := Lib.hid (fun W => place_no at_ W (by omega))
      go_enter Try.func37, Try.ntmps37
      go_wp2_with (first
          | (go_at_call 65
             refine (CB.out _).mono ?_
             rintro e w4 ⟨rfl, hb4⟩
             have HB4 : Hid (Below w.heap.size w w4) := ((Below.refl _ _).alloc (Nat.le_refl _) _).trans (hb4.mono (by simp))
             have hk4 : Below (w.heap.size + 1) (w.alloc (.cells #[.int .i64 6, .int .i64 0, .slice BA bl bc, .slice WA wl wc, .int .i64 at_, .int .i64 n, .int .u16 v, .int .u16 an, .int .u16 orr, .int .i64 co, .int .i64 le, .bool mo, .int .i64 nx, .slice OA ol oc] 28)) w4 := by
               rwa [show (w.alloc (.cells #[.int .i64 6, .int .i64 0, .slice BA bl bc, .slice WA wl wc, .int .i64 at_, .int .i64 n, .int .u16 v, .int .u16 an, .int .u16 orr, .int .i64 co, .int .i64 le, .bool mo, .int .i64 nx, .slice OA ol oc] 28)).heap.size = w.heap.size + 1 by simp] at hb4
             have hbx := box14 _ _ _ _ _ _ _ _ _ _ _ _ _ _ _ w w4 hk4
             have hz4 : w.heap.size < w4.heap.size := hbx.lt
             obtain ⟨hc0, hc1, hc2, hc3, hc4, hc5, hc6, hc7, hc8, hc9, hc10, hc11, hc12, hc13⟩ := cells14 hbx
             clear hb4 hk4 hbx)
          | (go_at_call 67; refine (rmost_any 6 _).mono ?_; rintro e w' ⟨rfl, rfl⟩)
          | (go_at_call 68; (with_reducible refine (CP.out _).mono ?_); rintro e w' ⟨rfl, rfl⟩))
      all_goals
        go_ret
        refine ⟨ret_bool ?_, HB4.out⟩
        first
          | exact (decide_eq_false fun h => by have h2 := (tell_nought.1 h).2.2.1; have h3 := (tell_nought.1 h).2.1; unfold rangT at h2; omega).symm
          | exact (decide_eq_true (tell_nought.2 ⟨rfl, by omega, by unfold rangT; omega, HRE.out⟩)).symm
          | exact decide_eq_decide.2 ⟨fun h => tell_nought.2 ⟨rfl, by omega, by unfold rangT; omega, HRE.out⟩, fun h => by have h2 := (tell_nought.1 h).2.2.1; unfold rangT at h2; omega⟩
  · have CB := Lib.hid (fun W => rbare_6  bl wl at_ n v an orr co le mo nx ol BA WA OA bc wc oc W)
    rw [decide_eq_false hre] at CB
    have HF : Hid (decide (tellP 6 0 bl wl at_ n v an orr co le mo.toNat nx ol fo.toNat) = false) := decide_eq_false fun h => hre (tell_nought.1 h).2.2.2
    rw [HF.out]
    clear hre
    go_enter Try.func37, Try.ntmps37
    go_wp2_with (first
    | (go_at_call 65
       refine (CB.out _).mono ?_
       rintro e w4 ⟨rfl, hb4⟩
       have HB4 : Hid (Below w.heap.size w w4) := ((Below.refl _ _).alloc (Nat.le_refl _) _).trans (hb4.mono (by simp))
       have hk4 : Below (w.heap.size + 1) (w.alloc (.cells #[.int .i64 6, .int .i64 0, .slice BA bl bc, .slice WA wl wc, .int .i64 at_, .int .i64 n, .int .u16 v, .int .u16 an, .int .u16 orr, .int .i64 co, .int .i64 le, .bool mo, .int .i64 nx, .slice OA ol oc] 28)) w4 := by
         rwa [show (w.alloc (.cells #[.int .i64 6, .int .i64 0, .slice BA bl bc, .slice WA wl wc, .int .i64 at_, .int .i64 n, .int .u16 v, .int .u16 an, .int .u16 orr, .int .i64 co, .int .i64 le, .bool mo, .int .i64 nx, .slice OA ol oc] 28)).heap.size = w.heap.size + 1 by simp] at hb4
       have hbx := box14 _ _ _ _ _ _ _ _ _ _ _ _ _ _ _ w w4 hk4
       have hz4 : w.heap.size < w4.heap.size := hbx.lt
       obtain ⟨hc0, hc1, hc2, hc3, hc4, hc5, hc6, hc7, hc8, hc9, hc10, hc11, hc12, hc13⟩ := cells14 hbx
       clear hb4 hk4 hbx))
    go_ret
    exact ⟨rfl, HB4.out⟩

set_option maxRecDepth 100000 in
set_option maxHeartbeats 2000000 in
theorem rtells_15 (bl wl : Nat) (at_ n v an orr co le : Int) (mo : Bool) (nx : Int) (ol : Nat) (BA WA OA : Option Addr) (bc wc oc : Nat) (fo : Bool) (w : World) :
    Calls Try.prog 37 #[.agg #[.int .i64 15, .int .i64 0, .slice BA bl bc, .slice WA wl wc, .int .i64 at_, .int .i64 n, .int .u16 v, .int .u16 an, .int .u16 orr, .int .i64 co, .int .i64 le, .bool mo, .int .i64 nx, .slice OA ol oc]] w fun e w' => e = .returned (.bool (decide (tellP 15 0 bl wl at_ n v an orr co le mo.toNat nx ol fo.toNat))) ∧ Below w.heap.size w w' := by
  by_cases hre : restT 15 bl wl at_ n v an orr co le mo.toNat nx ol
  · have CB := Lib.hid (fun W => rbare_15 bl wl at_ n v an orr co le mo nx ol BA WA OA bc wc oc W)
    rw [decide_eq_true hre] at CB
    have HRE := Lib.hid hre
    have hmw : kMostW 15 = 1968 := rfl
    have h0 : at_ = 0 ∨ 15 = 5 ∨ 15 = 6 ∨ 15 = 15 ∨ 15 = 16 ∨ 15 = 22 := by unfold restT at hre; omega
    clear hre
    by_cases hat : 0 ≤ at_ ∧ at_ ≤ 65535
    · have CP := Lib.hid (fun W => place_yes at_ W hat.1 hat.2)
      go_enter Try.func37, Try.ntmps37
      go_wp2_with (first
          | (go_at_call 65
             refine (CB.out _).mono ?_
             rintro e w4 ⟨rfl, hb4⟩
             have HB4 : Hid (Below w.heap.size w w4) := ((Below.refl _ _).alloc (Nat.le_refl _) _).trans (hb4.mono (by simp))
             have hk4 : Below (w.heap.size + 1) (w.alloc (.cells #[.int .i64 15, .int .i64 0, .slice BA bl bc, .slice WA wl wc, .int .i64 at_, .int .i64 n, .int .u16 v, .int .u16 an, .int .u16 orr, .int .i64 co, .int .i64 le, .bool mo, .int .i64 nx, .slice OA ol oc] 28)) w4 := by
               rwa [show (w.alloc (.cells #[.int .i64 15, .int .i64 0, .slice BA bl bc, .slice WA wl wc, .int .i64 at_, .int .i64 n, .int .u16 v, .int .u16 an, .int .u16 orr, .int .i64 co, .int .i64 le, .bool mo, .int .i64 nx, .slice OA ol oc] 28)).heap.size = w.heap.size + 1 by simp] at hb4
             have hbx := box14 _ _ _ _ _ _ _ _ _ _ _ _ _ _ _ w w4 hk4
             have hz4 : w.heap.size < w4.heap.size := hbx.lt
             obtain ⟨hc0, hc1, hc2, hc3, hc4, hc5, hc6, hc7, hc8, hc9, hc10, hc11, hc12, hc13⟩ := cells14 hbx
             clear hb4 hk4 hbx)
          | (go_at_call 67; refine (rmost_any 15 _).mono ?_; rintro e w' ⟨rfl, rfl⟩)
          | (go_at_call 68; (with_reducible refine (CP.out _).mono ?_); rintro e w' ⟨rfl, rfl⟩))
      all_goals
        go_ret
        refine ⟨ret_bool ?_, HB4.out⟩
        first
          | exact (decide_eq_false fun h => by have h2 := (tell_nought.1 h).2.2.1; have h3 := (tell_nought.1 h).2.1; unfold rangT at h2; omega).symm
          | exact (decide_eq_true (tell_nought.2 ⟨rfl, by omega, by unfold rangT; omega, HRE.out⟩)).symm
          | exact decide_eq_decide.2 ⟨fun h => tell_nought.2 ⟨rfl, by omega, by unfold rangT; omega, HRE.out⟩, fun h => by have h2 := (tell_nought.1 h).2.2.1; unfold rangT at h2; omega⟩
    · have CP := Lib.hid (fun W => place_no at_ W (by omega))
      go_enter Try.func37, Try.ntmps37
      go_wp2_with (first
          | (go_at_call 65
             refine (CB.out _).mono ?_
             rintro e w4 ⟨rfl, hb4⟩
             have HB4 : Hid (Below w.heap.size w w4) := ((Below.refl _ _).alloc (Nat.le_refl _) _).trans (hb4.mono (by simp))
             have hk4 : Below (w.heap.size + 1) (w.alloc (.cells #[.int .i64 15, .int .i64 0, .slice BA bl bc, .slice WA wl wc, .int .i64 at_, .int .i64 n, .int .u16 v, .int .u16 an, .int .u16 orr, .int .i64 co, .int .i64 le, .bool mo, .int .i64 nx, .slice OA ol oc] 28)) w4 := by
               rwa [show (w.alloc (.cells #[.int .i64 15, .int .i64 0, .slice BA bl bc, .slice WA wl wc, .int .i64 at_, .int .i64 n, .int .u16 v, .int .u16 an, .int .u16 orr, .int .i64 co, .int .i64 le, .bool mo, .int .i64 nx, .slice OA ol oc] 28)).heap.size = w.heap.size + 1 by simp] at hb4
             have hbx := box14 _ _ _ _ _ _ _ _ _ _ _ _ _ _ _ w w4 hk4
             have hz4 : w.heap.size < w4.heap.size := hbx.lt
             obtain ⟨hc0, hc1, hc2, hc3, hc4, hc5, hc6, hc7, hc8, hc9, hc10, hc11, hc12, hc13⟩ := cells14 hbx
             clear hb4 hk4 hbx)
          | (go_at_call 67; refine (rmost_any 15 _).mono ?_; rintro e w' ⟨rfl, rfl⟩)
          | (go_at_call 68; (with_reducible refine (CP.out _).mono ?_); rintro e w' ⟨rfl, rfl⟩))
      all_goals
        go_ret
        refine ⟨ret_bool ?_, HB4.out⟩
        first
          | exact (decide_eq_false fun h => by have h2 := (tell_nought.1 h).2.2.1; have h3 := (tell_nought.1 h).2.1; unfold rangT at h2; omega).symm
          | exact (decide_eq_true (tell_nought.2 ⟨rfl, by omega, by unfold rangT; omega, HRE.out⟩)).symm
          | exact decide_eq_decide.2 ⟨fun h => tell_nought.2 ⟨rfl, by omega, by unfold rangT; omega, HRE.out⟩, fun h => by have h2 := (tell_nought.1 h).2.2.1; unfold rangT at h2; omega⟩
  · have CB := Lib.hid (fun W => rbare_15  bl wl at_ n v an orr co le mo nx ol BA WA OA bc wc oc W)
    rw [decide_eq_false hre] at CB
    have HF : Hid (decide (tellP 15 0 bl wl at_ n v an orr co le mo.toNat nx ol fo.toNat) = false) := decide_eq_false fun h => hre (tell_nought.1 h).2.2.2
    rw [HF.out]
    clear hre
    go_enter Try.func37, Try.ntmps37
    go_wp2_with (first
    | (go_at_call 65
       refine (CB.out _).mono ?_
       rintro e w4 ⟨rfl, hb4⟩
       have HB4 : Hid (Below w.heap.size w w4) := ((Below.refl _ _).alloc (Nat.le_refl _) _).trans (hb4.mono (by simp))
       have hk4 : Below (w.heap.size + 1) (w.alloc (.cells #[.int .i64 15, .int .i64 0, .slice BA bl bc, .slice WA wl wc, .int .i64 at_, .int .i64 n, .int .u16 v, .int .u16 an, .int .u16 orr, .int .i64 co, .int .i64 le, .bool mo, .int .i64 nx, .slice OA ol oc] 28)) w4 := by
         rwa [show (w.alloc (.cells #[.int .i64 15, .int .i64 0, .slice BA bl bc, .slice WA wl wc, .int .i64 at_, .int .i64 n, .int .u16 v, .int .u16 an, .int .u16 orr, .int .i64 co, .int .i64 le, .bool mo, .int .i64 nx, .slice OA ol oc] 28)).heap.size = w.heap.size + 1 by simp] at hb4
       have hbx := box14 _ _ _ _ _ _ _ _ _ _ _ _ _ _ _ w w4 hk4
       have hz4 : w.heap.size < w4.heap.size := hbx.lt
       obtain ⟨hc0, hc1, hc2, hc3, hc4, hc5, hc6, hc7, hc8, hc9, hc10, hc11, hc12, hc13⟩ := cells14 hbx
       clear hb4 hk4 hbx))
    go_ret
    exact ⟨rfl, HB4.out⟩

set_option maxRecDepth 100000 in
set_option maxHeartbeats 2000000 in
theorem rtells_16 (bl wl : Nat) (at_ n v an orr co le : Int) (mo : Bool) (nx : Int) (ol : Nat) (BA WA OA : Option Addr) (bc wc oc : Nat) (fo : Bool) (w : World) :
    Calls Try.prog 37 #[.agg #[.int .i64 16, .int .i64 0, .slice BA bl bc, .slice WA wl wc, .int .i64 at_, .int .i64 n, .int .u16 v, .int .u16 an, .int .u16 orr, .int .i64 co, .int .i64 le, .bool mo, .int .i64 nx, .slice OA ol oc]] w fun e w' => e = .returned (.bool (decide (tellP 16 0 bl wl at_ n v an orr co le mo.toNat nx ol fo.toNat))) ∧ Below w.heap.size w w' := by
  by_cases hre : restT 16 bl wl at_ n v an orr co le mo.toNat nx ol
  · have CB := Lib.hid (fun W => rbare_16 bl wl at_ n v an orr co le mo nx ol BA WA OA bc wc oc W)
    rw [decide_eq_true hre] at CB
    have HRE := Lib.hid hre
    have hmw : kMostW 16 = 123 := rfl
    have h0 : at_ = 0 ∨ 16 = 5 ∨ 16 = 6 ∨ 16 = 15 ∨ 16 = 16 ∨ 16 = 22 := by unfold restT at hre; omega
    clear hre
    by_cases hat : 0 ≤ at_ ∧ at_ ≤ 65535
    · have CP := Lib.hid (fun W => place_yes at_ W hat.1 hat.2)
      go_enter Try.func37, Try.ntmps37
      go_wp2_with (first
          | (go_at_call 65
             refine (CB.out _).mono ?_
             rintro e w4 ⟨rfl, hb4⟩
             have HB4 : Hid (Below w.heap.size w w4) := ((Below.refl _ _).alloc (Nat.le_refl _) _).trans (hb4.mono (by simp))
             have hk4 : Below (w.heap.size + 1) (w.alloc (.cells #[.int .i64 16, .int .i64 0, .slice BA bl bc, .slice WA wl wc, .int .i64 at_, .int .i64 n, .int .u16 v, .int .u16 an, .int .u16 orr, .int .i64 co, .int .i64 le, .bool mo, .int .i64 nx, .slice OA ol oc] 28)) w4 := by
               rwa [show (w.alloc (.cells #[.int .i64 16, .int .i64 0, .slice BA bl bc, .slice WA wl wc, .int .i64 at_, .int .i64 n, .int .u16 v, .int .u16 an, .int .u16 orr, .int .i64 co, .int .i64 le, .bool mo, .int .i64 nx, .slice OA ol oc] 28)).heap.size = w.heap.size + 1 by simp] at hb4
             have hbx := box14 _ _ _ _ _ _ _ _ _ _ _ _ _ _ _ w w4 hk4
             have hz4 : w.heap.size < w4.heap.size := hbx.lt
             obtain ⟨hc0, hc1, hc2, hc3, hc4, hc5, hc6, hc7, hc8, hc9, hc10, hc11, hc12, hc13⟩ := cells14 hbx
             clear hb4 hk4 hbx)
          | (go_at_call 67; refine (rmost_any 16 _).mono ?_; rintro e w' ⟨rfl, rfl⟩)
          | (go_at_call 68; (with_reducible refine (CP.out _).mono ?_); rintro e w' ⟨rfl, rfl⟩))
      all_goals
        go_ret
        refine ⟨ret_bool ?_, HB4.out⟩
        first
          | exact (decide_eq_false fun h => by have h2 := (tell_nought.1 h).2.2.1; have h3 := (tell_nought.1 h).2.1; unfold rangT at h2; omega).symm
          | exact (decide_eq_true (tell_nought.2 ⟨rfl, by omega, by unfold rangT; omega, HRE.out⟩)).symm
          | exact decide_eq_decide.2 ⟨fun h => tell_nought.2 ⟨rfl, by omega, by unfold rangT; omega, HRE.out⟩, fun h => by have h2 := (tell_nought.1 h).2.2.1; unfold rangT at h2; omega⟩
    · have CP := Lib.hid (fun W => place_no at_ W (by omega))
      go_enter Try.func37, Try.ntmps37
      go_wp2_with (first
          | (go_at_call 65
             refine (CB.out _).mono ?_
             rintro e w4 ⟨rfl, hb4⟩
             have HB4 : Hid (Below w.heap.size w w4) := ((Below.refl _ _).alloc (Nat.le_refl _) _).trans (hb4.mono (by simp))
             have hk4 : Below (w.heap.size + 1) (w.alloc (.cells #[.int .i64 16, .int .i64 0, .slice BA bl bc, .slice WA wl wc, .int .i64 at_, .int .i64 n, .int .u16 v, .int .u16 an, .int .u16 orr, .int .i64 co, .int .i64 le, .bool mo, .int .i64 nx, .slice OA ol oc] 28)) w4 := by
               rwa [show (w.alloc (.cells #[.int .i64 16, .int .i64 0, .slice BA bl bc, .slice WA wl wc, .int .i64 at_, .int .i64 n, .int .u16 v, .int .u16 an, .int .u16 orr, .int .i64 co, .int .i64 le, .bool mo, .int .i64 nx, .slice OA ol oc] 28)).heap.size = w.heap.size + 1 by simp] at hb4
             have hbx := box14 _ _ _ _ _ _ _ _ _ _ _ _ _ _ _ w w4 hk4
             have hz4 : w.heap.size < w4.heap.size := hbx.lt
             obtain ⟨hc0, hc1, hc2, hc3, hc4, hc5, hc6, hc7, hc8, hc9, hc10, hc11, hc12, hc13⟩ := cells14 hbx
             clear hb4 hk4 hbx)
          | (go_at_call 67; refine (rmost_any 16 _).mono ?_; rintro e w' ⟨rfl, rfl⟩)
          | (go_at_call 68; (with_reducible refine (CP.out _).mono ?_); rintro e w' ⟨rfl, rfl⟩))
      all_goals
        go_ret
        refine ⟨ret_bool ?_, HB4.out⟩
        first
          | exact (decide_eq_false fun h => by have h2 := (tell_nought.1 h).2.2.1; have h3 := (tell_nought.1 h).2.1; unfold rangT at h2; omega).symm
          | exact (decide_eq_true (tell_nought.2 ⟨rfl, by omega, by unfold rangT; omega, HRE.out⟩)).symm
          | exact decide_eq_decide.2 ⟨fun h => tell_nought.2 ⟨rfl, by omega, by unfold rangT; omega, HRE.out⟩, fun h => by have h2 := (tell_nought.1 h).2.2.1; unfold rangT at h2; omega⟩
  · have CB := Lib.hid (fun W => rbare_16  bl wl at_ n v an orr co le mo nx ol BA WA OA bc wc oc W)
    rw [decide_eq_false hre] at CB
    have HF : Hid (decide (tellP 16 0 bl wl at_ n v an orr co le mo.toNat nx ol fo.toNat) = false) := decide_eq_false fun h => hre (tell_nought.1 h).2.2.2
    rw [HF.out]
    clear hre
    go_enter Try.func37, Try.ntmps37
    go_wp2_with (first
    | (go_at_call 65
       refine (CB.out _).mono ?_
       rintro e w4 ⟨rfl, hb4⟩
       have HB4 : Hid (Below w.heap.size w w4) := ((Below.refl _ _).alloc (Nat.le_refl _) _).trans (hb4.mono (by simp))
       have hk4 : Below (w.heap.size + 1) (w.alloc (.cells #[.int .i64 16, .int .i64 0, .slice BA bl bc, .slice WA wl wc, .int .i64 at_, .int .i64 n, .int .u16 v, .int .u16 an, .int .u16 orr, .int .i64 co, .int .i64 le, .bool mo, .int .i64 nx, .slice OA ol oc] 28)) w4 := by
         rwa [show (w.alloc (.cells #[.int .i64 16, .int .i64 0, .slice BA bl bc, .slice WA wl wc, .int .i64 at_, .int .i64 n, .int .u16 v, .int .u16 an, .int .u16 orr, .int .i64 co, .int .i64 le, .bool mo, .int .i64 nx, .slice OA ol oc] 28)).heap.size = w.heap.size + 1 by simp] at hb4
       have hbx := box14 _ _ _ _ _ _ _ _ _ _ _ _ _ _ _ w w4 hk4
       have hz4 : w.heap.size < w4.heap.size := hbx.lt
       obtain ⟨hc0, hc1, hc2, hc3, hc4, hc5, hc6, hc7, hc8, hc9, hc10, hc11, hc12, hc13⟩ := cells14 hbx
       clear hb4 hk4 hbx))
    go_ret
    exact ⟨rfl, HB4.out⟩

set_option maxRecDepth 100000 in
set_option maxHeartbeats 2000000 in
theorem rtells_22 (bl wl : Nat) (at_ n v an orr co le : Int) (mo : Bool) (nx : Int) (ol : Nat) (BA WA OA : Option Addr) (bc wc oc : Nat) (fo : Bool) (w : World) :
    Calls Try.prog 37 #[.agg #[.int .i64 22, .int .i64 0, .slice BA bl bc, .slice WA wl wc, .int .i64 at_, .int .i64 n, .int .u16 v, .int .u16 an, .int .u16 orr, .int .i64 co, .int .i64 le, .bool mo, .int .i64 nx, .slice OA ol oc]] w fun e w' => e = .returned (.bool (decide (tellP 22 0 bl wl at_ n v an orr co le mo.toNat nx ol fo.toNat))) ∧ Below w.heap.size w w' := by
  by_cases hre : restT 22 bl wl at_ n v an orr co le mo.toNat nx ol
  · have CB := Lib.hid (fun W => rbare_22 bl wl at_ n v an orr co le mo nx ol BA WA OA bc wc oc W)
    rw [decide_eq_true hre] at CB
    have HRE := Lib.hid hre
    have h0 : at_ = 0 ∨ 22 = 5 ∨ 22 = 6 ∨ 22 = 15 ∨ 22 = 16 ∨ 22 = 22 := by unfold restT at hre; omega
    clear hre
    by_cases hat : 0 ≤ at_ ∧ at_ ≤ 65535
    · have CP := Lib.hid (fun W => place_yes at_ W hat.1 hat.2)
      go_enter Try.func37, Try.ntmps37
      go_wp2_with (first
          | (go_at_call 65
             refine (CB.out _).mono ?_
             rintro e w4 ⟨rfl, hb4⟩
             have HB4 : Hid (Below w.heap.size w w4) := ((Below.refl _ _).alloc (Nat.le_refl _) _).trans (hb4.mono (by simp))
             have hk4 : Below (w.heap.size + 1) (w.alloc (.cells #[.int .i64 22, .int .i64 0, .slice BA bl bc, .slice WA wl wc, .int .i64 at_, .int .i64 n, .int .u16 v, .int .u16 an, .int .u16 orr, .int .i64 co, .int .i64 le, .bool mo, .int .i64 nx, .slice OA ol oc] 28)) w4 := by
               rwa [show (w.alloc (.cells #[.int .i64 22, .int .i64 0, .slice BA bl bc, .slice WA wl wc, .int .i64 at_, .int .i64 n, .int .u16 v, .int .u16 an, .int .u16 orr, .int .i64 co, .int .i64 le, .bool mo, .int .i64 nx, .slice OA ol oc] 28)).heap.size = w.heap.size + 1 by simp] at hb4
             have hbx := box14 _ _ _ _ _ _ _ _ _ _ _ _ _ _ _ w w4 hk4
             have hz4 : w.heap.size < w4.heap.size := hbx.lt
             obtain ⟨hc0, hc1, hc2, hc3, hc4, hc5, hc6, hc7, hc8, hc9, hc10, hc11, hc12, hc13⟩ := cells14 hbx
             clear hb4 hk4 hbx)
          | (go_at_call 67; refine (rmost_any 22 _).mono ?_; rintro e w' ⟨rfl, rfl⟩)
          | (go_at_call 68; (with_reducible refine (CP.out _).mono ?_); rintro e w' ⟨rfl, rfl⟩))
      all_goals
        go_ret
        refine ⟨ret_bool ?_, HB4.out⟩
        first
          | exact (decide_eq_false fun h => by have h2 := (tell_nought.1 h).2.2.1; have h3 := (tell_nought.1 h).2.1; unfold rangT at h2; omega).symm
          | exact (decide_eq_true (tell_nought.2 ⟨rfl, by omega, by unfold rangT; omega, HRE.out⟩)).symm
          | exact decide_eq_decide.2 ⟨fun h => tell_nought.2 ⟨rfl, by omega, by unfold rangT; omega, HRE.out⟩, fun h => by have h2 := (tell_nought.1 h).2.2.1; unfold rangT at h2; omega⟩
    · have CP := Lib.hid (fun W => place_no at_ W (by omega))
      go_enter Try.func37, Try.ntmps37
      go_wp2_with (first
          | (go_at_call 65
             refine (CB.out _).mono ?_
             rintro e w4 ⟨rfl, hb4⟩
             have HB4 : Hid (Below w.heap.size w w4) := ((Below.refl _ _).alloc (Nat.le_refl _) _).trans (hb4.mono (by simp))
             have hk4 : Below (w.heap.size + 1) (w.alloc (.cells #[.int .i64 22, .int .i64 0, .slice BA bl bc, .slice WA wl wc, .int .i64 at_, .int .i64 n, .int .u16 v, .int .u16 an, .int .u16 orr, .int .i64 co, .int .i64 le, .bool mo, .int .i64 nx, .slice OA ol oc] 28)) w4 := by
               rwa [show (w.alloc (.cells #[.int .i64 22, .int .i64 0, .slice BA bl bc, .slice WA wl wc, .int .i64 at_, .int .i64 n, .int .u16 v, .int .u16 an, .int .u16 orr, .int .i64 co, .int .i64 le, .bool mo, .int .i64 nx, .slice OA ol oc] 28)).heap.size = w.heap.size + 1 by simp] at hb4
             have hbx := box14 _ _ _ _ _ _ _ _ _ _ _ _ _ _ _ w w4 hk4
             have hz4 : w.heap.size < w4.heap.size := hbx.lt
             obtain ⟨hc0, hc1, hc2, hc3, hc4, hc5, hc6, hc7, hc8, hc9, hc10, hc11, hc12, hc13⟩ := cells14 hbx
             clear hb4 hk4 hbx)
          | (go_at_call 67; refine (rmost_any 22 _).mono ?_; rintro e w' ⟨rfl, rfl⟩)
          | (go_at_call 68; (with_reducible refine (CP.out _).mono ?_); rintro e w' ⟨rfl, rfl⟩))
      all_goals
        go_ret
        refine ⟨ret_bool ?_, HB4.out⟩
        first
          | exact (decide_eq_false fun h => by have h2 := (tell_nought.1 h).2.2.1; have h3 := (tell_nought.1 h).2.1; unfold rangT at h2; omega).symm
          | exact (decide_eq_true (tell_nought.2 ⟨rfl, by omega, by unfold rangT; omega, HRE.out⟩)).symm
          | exact decide_eq_decide.2 ⟨fun h => tell_nought.2 ⟨rfl, by omega, by unfold rangT; omega, HRE.out⟩, fun h => by have h2 := (tell_nought.1 h).2.2.1; unfold rangT at h2; omega⟩
  · have CB := Lib.hid (fun W => rbare_22  bl wl at_ n v an orr co le mo nx ol BA WA OA bc wc oc W)
    rw [decide_eq_false hre] at CB
    have HF : Hid (decide (tellP 22 0 bl wl at_ n v an orr co le mo.toNat nx ol fo.toNat) = false) := decide_eq_false fun h => hre (tell_nought.1 h).2.2.2
    rw [HF.out]
    clear hre
    go_enter Try.func37, Try.ntmps37
    go_wp2_with (first
    | (go_at_call 65
       refine (CB.out _).mono ?_
       rintro e w4 ⟨rfl, hb4⟩
       have HB4 : Hid (Below w.heap.size w w4) := ((Below.refl _ _).alloc (Nat.le_refl _) _).trans (hb4.mono (by simp))
       have hk4 : Below (w.heap.size + 1) (w.alloc (.cells #[.int .i64 22, .int .i64 0, .slice BA bl bc, .slice WA wl wc, .int .i64 at_, .int .i64 n, .int .u16 v, .int .u16 an, .int .u16 orr, .int .i64 co, .int .i64 le, .bool mo, .int .i64 nx, .slice OA ol oc] 28)) w4 := by
         rwa [show (w.alloc (.cells #[.int .i64 22, .int .i64 0, .slice BA bl bc, .slice WA wl wc, .int .i64 at_, .int .i64 n, .int .u16 v, .int .u16 an, .int .u16 orr, .int .i64 co, .int .i64 le, .bool mo, .int .i64 nx, .slice OA ol oc] 28)).heap.size = w.heap.size + 1 by simp] at hb4
       have hbx := box14 _ _ _ _ _ _ _ _ _ _ _ _ _ _ _ w w4 hk4
       have hz4 : w.heap.size < w4.heap.size := hbx.lt
       obtain ⟨hc0, hc1, hc2, hc3, hc4, hc5, hc6, hc7, hc8, hc9, hc10, hc11, hc12, hc13⟩ := cells14 hbx
       clear hb4 hk4 hbx))
    go_ret
    exact ⟨rfl, HB4.out⟩

set_option maxRecDepth 100000 in
set_option maxHeartbeats 2000000 in
theorem rtells_23 (bl wl : Nat) (at_ n v an orr co le : Int) (mo : Bool) (nx : Int) (ol : Nat) (BA WA OA : Option Addr) (bc wc oc : Nat) (fo : Bool) (w : World) :
    Calls Try.prog 37 #[.agg #[.int .i64 23, .int .i64 0, .slice BA bl bc, .slice WA wl wc, .int .i64 at_, .int .i64 n, .int .u16 v, .int .u16 an, .int .u16 orr, .int .i64 co, .int .i64 le, .bool mo, .int .i64 nx, .slice OA ol oc]] w fun e w' => e = .returned (.bool (decide (tellP 23 0 bl wl at_ n v an orr co le mo.toNat nx ol fo.toNat))) ∧ Below w.heap.size w w' := by
  by_cases hre : restT 23 bl wl at_ n v an orr co le mo.toNat nx ol
  · have CB := Lib.hid (fun W => rbare_23 bl wl at_ n v an orr co le mo nx ol BA WA OA bc wc oc W)
    rw [decide_eq_true hre] at CB
    have HRE := Lib.hid hre
    have h0 : at_ = 0 ∨ 23 = 5 ∨ 23 = 6 ∨ 23 = 15 ∨ 23 = 16 ∨ 23 = 22 := by unfold restT at hre; omega
    clear hre
    go_enter Try.func37, Try.ntmps37
    go_wp2_with (first
        | (go_at_call 65
           refine (CB.out _).mono ?_
           rintro e w4 ⟨rfl, hb4⟩
           have HB4 : Hid (Below w.heap.size w w4) := ((Below.refl _ _).alloc (Nat.le_refl _) _).trans (hb4.mono (by simp))
           have hk4 : Below (w.heap.size + 1) (w.alloc (.cells #[.int .i64 23, .int .i64 0, .slice BA bl bc, .slice WA wl wc, .int .i64 at_, .int .i64 n, .int .u16 v, .int .u16 an, .int .u16 orr, .int .i64 co, .int .i64 le, .bool mo, .int .i64 nx, .slice OA ol oc] 28)) w4 := by
             rwa [show (w.alloc (.cells #[.int .i64 23, .int .i64 0, .slice BA bl bc, .slice WA wl wc, .int .i64 at_, .int .i64 n, .int .u16 v, .int .u16 an, .int .u16 orr, .int .i64 co, .int .i64 le, .bool mo, .int .i64 nx, .slice OA ol oc] 28)).heap.size = w.heap.size + 1 by simp] at hb4
           have hbx := box14 _ _ _ _ _ _ _ _ _ _ _ _ _ _ _ w w4 hk4
           have hz4 : w.heap.size < w4.heap.size := hbx.lt
           obtain ⟨hc0, hc1, hc2, hc3, hc4, hc5, hc6, hc7, hc8, hc9, hc10, hc11, hc12, hc13⟩ := cells14 hbx
           clear hb4 hk4 hbx)
        | (go_at_call 67; refine (rmost_any 23 _).mono ?_; rintro e w' ⟨rfl, rfl⟩))
    all_goals
      go_ret
      refine ⟨ret_bool ?_, HB4.out⟩
      first
        | exact (decide_eq_false fun h => by have h2 := (tell_nought.1 h).2.2.1; have h3 := (tell_nought.1 h).2.1; unfold rangT at h2; omega).symm
        | exact (decide_eq_true (tell_nought.2 ⟨rfl, by omega, by unfold rangT; omega, HRE.out⟩)).symm
        | exact decide_eq_decide.2 ⟨fun h => tell_nought.2 ⟨rfl, by omega, by unfold rangT; omega, HRE.out⟩, fun h => by have h2 := (tell_nought.1 h).2.2.1; unfold rangT at h2; omega⟩
  · have CB := Lib.hid (fun W => rbare_23  bl wl at_ n v an orr co le mo nx ol BA WA OA bc wc oc W)
    rw [decide_eq_false hre] at CB
    have HF : Hid (decide (tellP 23 0 bl wl at_ n v an orr co le mo.toNat nx ol fo.toNat) = false) := decide_eq_false fun h => hre (tell_nought.1 h).2.2.2
    rw [HF.out]
    clear hre
    go_enter Try.func37, Try.ntmps37
    go_wp2_with (first
    | (go_at_call 65
       refine (CB.out _).mono ?_
       rintro e w4 ⟨rfl, hb4⟩
       have HB4 : Hid (Below w.heap.size w w4) := ((Below.refl _ _).alloc (Nat.le_refl _) _).trans (hb4.mono (by simp))
       have hk4 : Below (w.heap.size + 1) (w.alloc (.cells #[.int .i64 23, .int .i64 0, .slice BA bl bc, .slice WA wl wc, .int .i64 at_, .int .i64 n, .int .u16 v, .int .u16 an, .int .u16 orr, .int .i64 co, .int .i64 le, .bool mo, .int .i64 nx, .slice OA ol oc] 28)) w4 := by
         rwa [show (w.alloc (.cells #[.int .i64 23, .int .i64 0, .slice BA bl bc, .slice WA wl wc, .int .i64 at_, .int .i64 n, .int .u16 v, .int .u16 an, .int .u16 orr, .int .i64 co, .int .i64 le, .bool mo, .int .i64 nx, .slice OA ol oc] 28)).heap.size = w.heap.size + 1 by simp] at hb4
       have hbx := box14 _ _ _ _ _ _ _ _ _ _ _ _ _ _ _ w w4 hk4
       have hz4 : w.heap.size < w4.heap.size := hbx.lt
       obtain ⟨hc0, hc1, hc2, hc3, hc4, hc5, hc6, hc7, hc8, hc9, hc10, hc11, hc12, hc13⟩ := cells14 hbx
       clear hb4 hk4 hbx))
    go_ret
    exact ⟨rfl, HB4.out⟩

set_option maxRecDepth 100000 in
set_option maxHeartbeats 2000000 in
theorem rtells_43 (bl wl : Nat) (at_ n v an orr co le : Int) (mo : Bool) (nx : Int) (ol : Nat) (BA WA OA : Option Addr) (bc wc oc : Nat) (fo : Bool) (w : World) (os : List Ob) (hl : OL w w.heap.size OA ol os) (hol : ol ≤ 100000) (hz : ∀ o ∈ os, o.2.size ≤ 1000000) (hfo : decide (fitP os) = fo) :
    Calls Try.prog 37 #[.agg #[.int .i64 43, .int .i64 0, .slice BA bl bc, .slice WA wl wc, .int .i64 at_, .int .i64 n, .int .u16 v, .int .u16 an, .int .u16 orr, .int .i64 co, .int .i64 le, .bool mo, .int .i64 nx, .slice OA ol oc]] w fun e w' => e = .returned (.bool (decide (tellP 43 0 bl wl at_ n v an orr co le mo.toNat nx ol fo.toNat))) ∧ Below w.heap.size w w' := by
  by_cases hre : restT 43 bl wl at_ n v an orr co le mo.toNat nx ol
  · have CB := Lib.hid (fun W => rbare_43 bl wl at_ n v an orr co le mo nx ol BA WA OA bc wc oc W)
    rw [decide_eq_true hre] at CB
    have HRE := Lib.hid hre
    obtain ⟨b, hb⟩ : ∃ b, decide (okO co le nx os) = b := ⟨_, rfl⟩
    have CO := Lib.hid (fun W (hW : Below w.heap.size w W) => robj_any 43 0 bl wl at_ n v an orr co le mo nx ol BA WA OA bc wc oc os W b (hl.below hW) hol hz hb)
    have HT : Hid (b = decide (tellP 43 0 bl wl at_ n v an orr co le mo.toNat nx ol fo.toNat)) := by
      have h1 : at_ = 0 := by unfold restT at hre; omega
      rw [← hb]
      refine Bool.eq_iff_iff.2 ?_
      rw [decide_eq_true_iff, decide_eq_true_iff]
      have hff : fo.toNat = 1 ↔ fitP os := by
        rw [← hfo]
        by_cases h : fitP os
        · simp [h]
        · simp [h]
      constructor
      · intro h
        refine tell_nought.2 ⟨rfl, by omega, ?_, hre⟩
        have h2 := hff.2 h.2.2.2
        have h3 := h.1
        have h4 := h.2.1
        have h5 := h.2.2.1
        unfold rangT
        omega
      · intro h
        have h2 := (tell_nought.1 h).2.2.1
        unfold rangT at h2
        refine ⟨by omega, by omega, by omega, hff.1 (by omega)⟩
    clear hb
    clear hre hl hz hfo
    go_enter Try.func37, Try.ntmps37
    go_wp2_with (first
        | (go_at_call 65
           refine (CB.out _).mono ?_
           rintro e w4 ⟨rfl, hb4⟩
           have HB4 : Hid (Below w.heap.size w w4) := ((Below.refl _ _).alloc (Nat.le_refl _) _).trans (hb4.mono (by simp))
           have hk4 : Below (w.heap.size + 1) (w.alloc (.cells #[.int .i64 43, .int .i64 0, .slice BA bl bc, .slice WA wl wc, .int .i64 at_, .int .i64 n, .int .u16 v, .int .u16 an, .int .u16 orr, .int .i64 co, .int .i64 le, .bool mo, .int .i64 nx, .slice OA ol oc] 28)) w4 := by
             rwa [show (w.alloc (.cells #[.int .i64 43, .int .i64 0, .slice BA bl bc, .slice WA wl wc, .int .i64 at_, .int .i64 n, .int .u16 v, .int .u16 an, .int .u16 orr, .int .i64 co, .int .i64 le, .bool mo, .int .i64 nx, .slice OA ol oc] 28)).heap.size = w.heap.size + 1 by simp] at hb4
           have hbx := box14 _ _ _ _ _ _ _ _ _ _ _ _ _ _ _ w w4 hk4
           have hz4 : w.heap.size < w4.heap.size := hbx.lt
           obtain ⟨hc0, hc1, hc2, hc3, hc4, hc5, hc6, hc7, hc8, hc9, hc10, hc11, hc12, hc13⟩ := cells14 hbx
           clear hb4 hk4 hbx)
        | (go_at_call 67; refine (rmost_any 43 _).mono ?_; rintro e w' ⟨rfl, rfl⟩)
        | (go_at_call 69
           refine (CO.out _ HB4.out).mono ?_
           rintro e w5 ⟨rfl, hb5⟩
           have HB5 := Lib.hid (HB4.out.trans (hb5.mono HB4.out.size))
           clear hb5))
    go_ret
    exact ⟨ret_bool HT.out, HB5.out⟩
  · have CB := Lib.hid (fun W => rbare_43  bl wl at_ n v an orr co le mo nx ol BA WA OA bc wc oc W)
    rw [decide_eq_false hre] at CB
    have HF : Hid (decide (tellP 43 0 bl wl at_ n v an orr co le mo.toNat nx ol fo.toNat) = false) := decide_eq_false fun h => hre (tell_nought.1 h).2.2.2
    rw [HF.out]
    clear hre hl hz hfo
    go_enter Try.func37, Try.ntmps37
    go_wp2_with (first
    | (go_at_call 65
       refine (CB.out _).mono ?_
       rintro e w4 ⟨rfl, hb4⟩
       have HB4 : Hid (Below w.heap.size w w4) := ((Below.refl _ _).alloc (Nat.le_refl _) _).trans (hb4.mono (by simp))
       have hk4 : Below (w.heap.size + 1) (w.alloc (.cells #[.int .i64 43, .int .i64 0, .slice BA bl bc, .slice WA wl wc, .int .i64 at_, .int .i64 n, .int .u16 v, .int .u16 an, .int .u16 orr, .int .i64 co, .int .i64 le, .bool mo, .int .i64 nx, .slice OA ol oc] 28)) w4 := by
         rwa [show (w.alloc (.cells #[.int .i64 43, .int .i64 0, .slice BA bl bc, .slice WA wl wc, .int .i64 at_, .int .i64 n, .int .u16 v, .int .u16 an, .int .u16 orr, .int .i64 co, .int .i64 le, .bool mo, .int .i64 nx, .slice OA ol oc] 28)).heap.size = w.heap.size + 1 by simp] at hb4
       have hbx := box14 _ _ _ _ _ _ _ _ _ _ _ _ _ _ _ w w4 hk4
       have hz4 : w.heap.size < w4.heap.size := hbx.lt
       obtain ⟨hc0, hc1, hc2, hc3, hc4, hc5, hc6, hc7, hc8, hc9, hc10, hc11, hc12, hc13⟩ := cells14 hbx
       clear hb4 hk4 hbx))
    go_ret
    exact ⟨rfl, HB4.out⟩

def failP (ex : Int) : Prop := ex = 1 ∨ ex = 2 ∨ ex = 3 ∨ ex = 4 ∨ ex = 6
instance (ex : Int) : Decidable (failP ex) := by unfold failP; infer_instance
theorem rfailing_any (ex : Int) (w : World) :
    Calls Try.prog 35 #[.int .i64 ex] w fun e w' => e = .returned (.bool (decide (failP ex))) ∧ w = w' := by
  go_enter Try.func35, Try.ntmps35
  by_cases h1 : 1 ≤ ex
  · by_cases h4 : ex ≤ 4
    · go_wp2
      go_ret
      exact ⟨ret_bool (decide_eq_true (by unfold failP; omega)).symm, rfl⟩
    · have h4d : decide (ex ≤ 4) = false := by simpa using h4
      by_cases h6 : ex = 6
      · subst h6
        go_wp2
        go_ret
        exact ⟨ret_bool (decide_eq_true (by unfold failP; omega)).symm, rfl⟩
      · have h6d : (ex == 6) = false := by simpa using h6
        go_wp2
        go_ret
        exact ⟨ret_bool (decide_eq_false (by unfold failP; omega)).symm, rfl⟩
  · have h1d : decide (1 ≤ ex) = false := by simpa using h1
    have h6 : ¬ ex = 6 := by omega
    have h6d : (ex == 6) = false := by simpa using h6
    go_wp2
    go_ret
    exact ⟨ret_bool (decide_eq_false (by unfold failP; omega)).symm, rfl⟩

set_option maxRecDepth 100000 in
set_option maxHeartbeats 2000000 in
theorem rtells_no (fn : Int) (h : NoFn fn) (bl wl : Nat) (at_ n v an orr co le : Int) (mo : Bool) (nx : Int) (ol : Nat) (BA WA OA : Option Addr) (bc wc oc : Nat) (fo : Bool) (w : World) :
    Calls Try.prog 37 #[.agg #[.int .i64 fn, .int .i64 0, .slice BA bl bc, .slice WA wl wc, .int .i64 at_, .int .i64 n, .int .u16 v, .int .u16 an, .int .u16 orr, .int .i64 co, .int .i64 le, .bool mo, .int .i64 nx, .slice OA ol oc]] w fun e w' => e = .returned (.bool (decide (tellP fn 0 bl wl at_ n v an orr co le mo.toNat nx ol fo.toNat))) ∧ Below w.heap.size w w' := by
  have HF : Hid (decide (tellP fn 0 bl wl at_ n v an orr co le mo.toNat nx ol fo.toNat) = false) := decide_eq_false fun h2 => by have := (tell_nought.1 h2).1; rw [h.known] at this; cases this
  rw [HF.out]
  have CB := Lib.hid (fun W => rbare_no fn h bl wl at_ n v an orr co le mo nx ol BA WA OA bc wc oc W)
  have CM := Lib.hid (fun W => rmost_no fn W h)
  have m1 : (fn == 1) = false := by simpa using h.h1
  have m2 : (fn == 2) = false := by simpa using h.h2
  have m3 : (fn == 3) = false := by simpa using h.h3
  have m4 : (fn == 4) = false := by simpa using h.h4
  have m5 : (fn == 5) = false := by simpa using h.h5
  have m6 : (fn == 6) = false := by simpa using h.h6
  have m15 : (fn == 15) = false := by simpa using h.h15
  have m16 : (fn == 16) = false := by simpa using h.h16
  have m22 : (fn == 22) = false := by simpa using h.h22
  have m23 : (fn == 23) = false := by simpa using h.h23
  have m43 : (fn == 43) = false := by simpa using h.h43
  go_enter Try.func37, Try.ntmps37
  go_wp2_with fail
  refine (CB.out _).mono ?_
  rintro e w4 ⟨⟨b, rfl⟩, hb4⟩
  have HB4 : Hid (Below w.heap.size w w4) := ((Below.refl _ _).alloc (Nat.le_refl _) _).trans (hb4.mono (by simp))
  have hk4 : Below (w.heap.size + 1) (w.alloc (.cells #[.int .i64 fn, .int .i64 0, .slice BA bl bc, .slice WA wl wc, .int .i64 at_, .int .i64 n, .int .u16 v, .int .u16 an, .int .u16 orr, .int .i64 co, .int .i64 le, .bool mo, .int .i64 nx, .slice OA ol oc] 28)) w4 := by
    rwa [show (w.alloc (.cells #[.int .i64 fn, .int .i64 0, .slice BA bl bc, .slice WA wl wc, .int .i64 at_, .int .i64 n, .int .u16 v, .int .u16 an, .int .u16 orr, .int .i64 co, .int .i64 le, .bool mo, .int .i64 nx, .slice OA ol oc] 28)).heap.size = w.heap.size + 1 by simp] at hb4
  have hbx := box14 _ _ _ _ _ _ _ _ _ _ _ _ _ _ _ w w4 hk4
  have hz4 : w.heap.size < w4.heap.size := hbx.lt
  obtain ⟨hc0, hc1, hc2, hc3, hc4, hc5, hc6, hc7, hc8, hc9, hc10, hc11, hc12, hc13⟩ := cells14 hbx
  clear hb4 hk4 hbx
  cases b
  · go_wp2_with fail
    go_ret
    exact ⟨rfl, HB4.out⟩
  · go_wp2_with (go_at_call 67; refine (CM.out _).mono ?_; rintro e w' ⟨rfl, rfl⟩)
    go_ret
    exact ⟨rfl, HB4.out⟩

set_option maxRecDepth 100000 in
set_option maxHeartbeats 2000000 in
theorem rtells_exc (fn ex : Int) (hx : ex ≠ 0) (bl wl : Nat) (at_ n v an orr co le : Int) (mo : Bool) (nx : Int) (ol : Nat) (BA WA OA : Option Addr) (bc wc oc : Nat) (fo : Bool) (w : World) :
    Calls Try.prog 37 #[.agg #[.int .i64 fn, .int .i64 ex, .slice BA bl bc, .slice WA wl wc, .int .i64 at_, .int .i64 n, .int .u16 v, .int .u16 an, .int .u16 orr, .int .i64 co, .int .i64 le, .bool mo, .int .i64 nx, .slice OA ol oc]] w fun e w' => e = .returned (.bool (decide (tellP fn ex bl wl at_ n v an orr co le mo.toNat nx ol fo.toNat))) ∧ Below w.heap.size w w' := by
  have hx2 : (ex != 0) = true := by simpa using hx
  by_cases hz : zeroT bl wl at_ n v an orr co le mo.toNat nx ol
  · have CB := Lib.hid (fun W => rbare_exc fn ex hx bl wl at_ n v an orr co le mo nx ol BA WA OA bc wc oc W)
    rw [decide_eq_true hz] at CB
    by_cases hf : failP ex
    · have CF := Lib.hid (fun W => rfailing_any ex W)
      rw [decide_eq_true hf] at CF
      by_cases hb : 0 ≤ fn ∧ fn ≤ 255
      · have CY := Lib.hid (fun W => byteful_yes fn W hb.1 hb.2)
        have HT : Hid (decide (tellP fn ex bl wl at_ n v an orr co le mo.toNat nx ol fo.toNat) = true) := decide_eq_true ((tell_exc hx).2 ⟨hf, hb, hz⟩)
        rw [HT.out]
        clear hz hf hb
        go_enter Try.func37, Try.ntmps37
        go_wp2_with (first
          | (go_at_call 65
             refine (CB.out _).mono ?_
             rintro e w4 ⟨rfl, hb4⟩
             have HB4 : Hid (Below w.heap.size w w4) := ((Below.refl _ _).alloc (Nat.le_refl _) _).trans (hb4.mono (by simp))
             have hk4 : Below (w.heap.size + 1) (w.alloc (.cells #[.int .i64 fn, .int .i64 ex, .slice BA bl bc, .slice WA wl wc, .int .i64 at_, .int .i64 n, .int .u16 v, .int .u16 an, .int .u16 orr, .int .i64 co, .int .i64 le, .bool mo, .int .i64 nx, .slice OA ol oc] 28)) w4 := by
               rwa [show (w.alloc (.cells #[.int .i64 fn, .int .i64 ex, .slice BA bl bc, .slice WA wl wc, .int .i64 at_, .int .i64 n, .int .u16 v, .int .u16 an, .int .u16 orr, .int .i64 co, .int .i64 le, .bool mo, .int .i64 nx, .slice OA ol oc] 28)).heap.size = w.heap.size + 1 by simp] at hb4
             have hbx := box14 _ _ _ _ _ _ _ _ _ _ _ _ _ _ _ w w4 hk4
             have hz4 : w.heap.size < w4.heap.size := hbx.lt
             obtain ⟨hc0, hc1, hc2, hc3, hc4, hc5, hc6, hc7, hc8, hc9, hc10, hc11, hc12, hc13⟩ := cells14 hbx
             clear hb4 hk4 hbx)
          | (go_at_call 35; refine (CF.out _).mono ?_; rintro e w' ⟨rfl, rfl⟩)
          | (go_at_call 66; refine (CY.out _).mono ?_; rintro e w' ⟨rfl, rfl⟩))
        go_ret
        exact ⟨rfl, HB4.out⟩
      · have CY := Lib.hid (fun W => byteful_no fn W (by omega))
        have HT : Hid (decide (tellP fn ex bl wl at_ n v an orr co le mo.toNat nx ol fo.toNat) = false) := decide_eq_false fun h => hb ((tell_exc hx).1 h).2.1
        rw [HT.out]
        clear hz hf hb
        go_enter Try.func37, Try.ntmps37
        go_wp2_with (first
          | (go_at_call 65
             refine (CB.out _).mono ?_
             rintro e w4 ⟨rfl, hb4⟩
             have HB4 : Hid (Below w.heap.size w w4) := ((Below.refl _ _).alloc (Nat.le_refl _) _).trans (hb4.mono (by simp))
             have hk4 : Below (w.heap.size + 1) (w.alloc (.cells #[.int .i64 fn, .int .i64 ex, .slice BA bl bc, .slice WA wl wc, .int .i64 at_, .int .i64 n, .int .u16 v, .int .u16 an, .int .u16 orr, .int .i64 co, .int .i64 le, .bool mo, .int .i64 nx, .slice OA ol oc] 28)) w4 := by
               rwa [show (w.alloc (.cells #[.int .i64 fn, .int .i64 ex, .slice BA bl bc, .slice WA wl wc, .int .i64 at_, .int .i64 n, .int .u16 v, .int .u16 an, .int .u16 orr, .int .i64 co, .int .i64 le, .bool mo, .int .i64 nx, .slice OA ol oc] 28)).heap.size = w.heap.size + 1 by simp] at hb4
             have hbx := box14 _ _ _ _ _ _ _ _ _ _ _ _ _ _ _ w w4 hk4
             have hz4 : w.heap.size < w4.heap.size := hbx.lt
             obtain ⟨hc0, hc1, hc2, hc3, hc4, hc5, hc6, hc7, hc8, hc9, hc10, hc11, hc12, hc13⟩ := cells14 hbx
             clear hb4 hk4 hbx)
          | (go_at_call 35; refine (CF.out _).mono ?_; rintro e w' ⟨rfl, rfl⟩)
          | (go_at_call 66; refine (CY.out _).mono ?_; rintro e w' ⟨rfl, rfl⟩))
        go_ret
        exact ⟨rfl, HB4.out⟩
    · have CF := Lib.hid (fun W => rfailing_any ex W)
      rw [decide_eq_false hf] at CF
      have HT : Hid (decide (tellP fn ex bl wl at_ n v an orr co le mo.toNat nx ol fo.toNat) = false) := decide_eq_false fun h => hf ((tell_exc hx).1 h).1
      rw [HT.out]
      clear hz hf
      go_enter Try.func37, Try.ntmps37
      go_wp2_with (first
          | (go_at_call 65
             refine (CB.out _).mono ?_
             rintro e w4 ⟨rfl, hb4⟩
             have HB4 : Hid (Below w.heap.size w w4) := ((Below.refl _ _).alloc (Nat.le_refl _) _).trans (hb4.mono (by simp))
             have hk4 : Below (w.heap.size + 1) (w.alloc (.cells #[.int .i64 fn, .int .i64 ex, .slice BA bl bc, .slice WA wl wc, .int .i64 at_, .int .i64 n, .int .u16 v, .int .u16 an, .int .u16 orr, .int .i64 co, .int .i64 le, .bool mo, .int .i64 nx, .slice OA ol oc] 28)) w4 := by
               rwa [show (w.alloc (.cells #[.int .i64 fn, .int .i64 ex, .slice BA bl bc, .slice WA wl wc, .int .i64 at_, .int .i64 n, .int .u16 v, .int .u16 an, .int .u16 orr, .int .i64 co, .int .i64 le, .bool mo, .int .i64 nx, .slice OA ol oc] 28)).heap.size = w.heap.size + 1 by simp] at hb4
             have hbx := box14 _ _ _ _ _ _ _ _ _ _ _ _ _ _ _ w w4 hk4
             have hz4 : w.heap.size < w4.heap.size := hbx.lt
             obtain ⟨hc0, hc1, hc2, hc3, hc4, hc5, hc6, hc7, hc8, hc9, hc10, hc11, hc12, hc13⟩ := cells14 hbx
             clear hb4 hk4 hbx)
          | (go_at_call 35; refine (CF.out _).mono ?_; rintro e w' ⟨rfl, rfl⟩))
      go_ret
      exact ⟨rfl, HB4.out⟩
  · have CB := Lib.hid (fun W => rbare_exc fn ex hx bl wl at_ n v an orr co le mo nx ol BA WA OA bc wc oc W)
    rw [decide_eq_false hz] at CB
    have HT : Hid (decide (tellP fn ex bl wl at_ n v an orr co le mo.toNat nx ol fo.toNat) = false) := decide_eq_false fun h => hz ((tell_exc hx).1 h).2.2
    rw [HT.out]
    clear hz
    go_enter Try.func37, Try.ntmps37
    go_wp2_with (first
          | (go_at_call 65
             refine (CB.out _).mono ?_
             rintro e w4 ⟨rfl, hb4⟩
             have HB4 : Hid (Below w.heap.size w w4) := ((Below.refl _ _).alloc (Nat.le_refl _) _).trans (hb4.mono (by simp))
             have hk4 : Below (w.heap.size + 1) (w.alloc (.cells #[.int .i64 fn, .int .i64 ex, .slice BA bl bc, .slice WA wl wc, .int .i64 at_, .int .i64 n, .int .u16 v, .int .u16 an, .int .u16 orr, .int .i64 co, .int .i64 le, .bool mo, .int .i64 nx, .slice OA ol oc] 28)) w4 := by
               rwa [show (w.alloc (.cells #[.int .i64 fn, .int .i64 ex, .slice BA bl bc, .slice WA wl wc, .int .i64 at_, .int .i64 n, .int .u16 v, .int .u16 an, .int .u16 orr, .int .i64 co, .int .i64 le, .bool mo, .int .i64 nx, .slice OA ol oc] 28)).heap.size = w.heap.size + 1 by simp] at hb4
             have hbx := box14 _ _ _ _ _ _ _ _ _ _ _ _ _ _ _ w w4 hk4
             have hz4 : w.heap.size < w4.heap.size := hbx.lt
             obtain ⟨hc0, hc1, hc2, hc3, hc4, hc5, hc6, hc7, hc8, hc9, hc10, hc11, hc12, hc13⟩ := cells14 hbx
             clear hb4 hk4 hbx))
    go_ret
    exact ⟨rfl, HB4.out⟩

/-- Tells, whatever it is given. -/
theorem rtells_any (fn ex : Int) (bl wl : Nat) (at_ n v an orr co le : Int) (mo : Bool) (nx : Int) (ol : Nat) (BA WA OA : Option Addr) (bc wc oc : Nat) (fo : Bool) (w : World) (os : List Ob) (v0 : 0 ≤ v) (hl : OL w w.heap.size OA ol os) (hol : ol ≤ 100000) (hz : ∀ o ∈ os, o.2.size ≤ 1000000) (hfo : decide (fitP os) = fo) :
    Calls Try.prog 37 #[.agg #[.int .i64 fn, .int .i64 ex, .slice BA bl bc, .slice WA wl wc, .int .i64 at_, .int .i64 n, .int .u16 v, .int .u16 an, .int .u16 orr, .int .i64 co, .int .i64 le, .bool mo, .int .i64 nx, .slice OA ol oc]] w fun e w' => e = .returned (.bool (decide (tellP fn ex bl wl at_ n v an orr co le mo.toNat nx ol fo.toNat))) ∧ Below w.heap.size w w' := by
  by_cases hx : ex = 0
  · subst hx
    rcases kinds fn with rfl | rfl | rfl | rfl | rfl | rfl | rfl | rfl | rfl | rfl | rfl | hno
    · exact rtells_1 bl wl at_ n v an orr co le mo nx ol BA WA OA bc wc oc fo w
    · exact rtells_2 bl wl at_ n v an orr co le mo nx ol BA WA OA bc wc oc fo w
    · exact rtells_3 bl wl at_ n v an orr co le mo nx ol BA WA OA bc wc oc fo w
    · exact rtells_4 bl wl at_ n v an orr co le mo nx ol BA WA OA bc wc oc fo w
    · exact rtells_5 bl wl at_ n v an orr co le mo nx ol BA WA OA bc wc oc fo w v0
    · exact rtells_6 bl wl at_ n v an orr co le mo nx ol BA WA OA bc wc oc fo w
    · exact rtells_15 bl wl at_ n v an orr co le mo nx ol BA WA OA bc wc oc fo w
    · exact rtells_16 bl wl at_ n v an orr co le mo nx ol BA WA OA bc wc oc fo w
    · exact rtells_22 bl wl at_ n v an orr co le mo nx ol BA WA OA bc wc oc fo w
    · exact rtells_23 bl wl at_ n v an orr co le mo nx ol BA WA OA bc wc oc fo w
    · exact rtells_43 bl wl at_ n v an orr co le mo nx ol BA WA OA bc wc oc fo w os hl hol hz hfo
    · exact rtells_no fn hno bl wl at_ n v an orr co le mo nx ol BA WA OA bc wc oc fo w
  · exact rtells_exc fn ex hx bl wl at_ n v an orr co le mo nx ol BA WA OA bc wc oc fo w

end Go.Proofs.Ytielfekkonflfaa

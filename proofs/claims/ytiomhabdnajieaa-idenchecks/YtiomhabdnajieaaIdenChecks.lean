/- Proved: for every slice of objects, every slice of numbers, and every two numbers, busbarlaw7.IdenChecks returns true, and its arguments read as before. Conditions: none. -/
import Derived.Test.YtiomhabdnajieaaIChk
import Derived.Test.YtiomhabdnajieaaLentObjs
import Derived.Test.YtiomhabdnajieaaOpenObjs
import Derived.Test.YtiomhabdnajieaaLChk
namespace Go.Proofs.Ytiomhabdnajieaa.idenChecks
open Go.ChangeShapes Go.WideShapes Go.ChangeAt Go.RowKit
open Go.ChangeMaps (open_string shut_string)
set_option linter.unusedVariables false
set_option linter.unusedSimpArgs false

theorem walk_many (a0 : Option Addr) (len0 cap0 : Nat) (z0 : List Ob) (a1 : Option Addr) (len1 cap1 : Nat) (z1 : List Int) (a2 : Int) (a3 : Int) (w : World) (w0 : IsObjs w a0 len0 cap0 z0) (w1 : IsRow .i64 w a1 len1 cap1 z1) (w2 : (Lit.int .i64 a2).wf = true) (w3 : (Lit.int .i64 a3).wf = true) (hf : ¬ fewP z0) :
    Calls Try.prog 7 #[.slice a0 len0 cap0, .slice a1 len1 cap1, .int .i64 a2, .int .i64 a3] w fun e w' => e = .returned (.bool true) ∧ Below w.heap.size w w' := by
  obtain ⟨ho, hoc, hom, hob⟩ := w0
  have CF := Lib.hid (few7_any a0 len0 cap0 z0 false w ho (by unfold maxLen at hom; omega) (fun k hk => by have := (hob _ (goodL.getD_mem k (by rw [ho.len]; exact hk))).2; unfold maxLen at this; omega) (decide_eq_false hf))
  clear ho hoc hom hob hf w1 w2 w3
  go_enter Try.func7, Try.ntmps7
  go_wp2_with (first
    | (go_at_call 34; refine CF.out.mono ?_; rintro e w' ⟨rfl, rfl⟩)
    | (go_at_call 35; refine (awake7_any _).mono ?_; rintro e w1 ⟨rfl, hb⟩; have HB := Lib.hid hb; clear hb))
  go_ret
  exact ⟨rfl, HB.out⟩

set_option maxRecDepth 100000 in
set_option maxHeartbeats 4000000 in
theorem walk_0 (a0 : Option Addr) (len0 cap0 : Nat) (z0 : List Ob) (a1 : Option Addr) (len1 cap1 : Nat) (z1 : List Int) (a2 : Int) (a3 : Int) (w : World) (w0 : IsObjs w a0 len0 cap0 z0) (w1 : IsRow .i64 w a1 len1 cap1 z1) (w2 : (Lit.int .i64 a2).wf = true) (w3 : (Lit.int .i64 a3).wf = true) (hf : fewP z0) (hq : a2 % 4 = 0) :
    Calls Try.prog 7 #[.slice a0 len0 cap0, .slice a1 len1 cap1, .int .i64 a2, .int .i64 a3] w fun e w' => e = .returned (.bool true) ∧ Below w.heap.size w w' := by
  obtain ⟨ho, hoc, hom, hob⟩ := w0
  have hlen0 := ho.len
  have CF := Lib.hid (few7_any a0 len0 cap0 z0 true w ho (by unfold maxLen at hom; omega) (fun k hk => by have := (hob _ (goodL.getD_mem k (by rw [ho.len]; exact hk))).2; unfold maxLen at this; omega) (decide_eq_true hf))
  have hn60 : len0 ≤ 60 := by have := hf.1; omega
  obtain ⟨v0, hv0⟩ : ∃ v, checkOf z0 = v := ⟨_, rfl⟩
  have hvv : (v0 != v0) = false := by simp
  have HOL := Lib.hid ho
  have HV := Lib.hid hv0
  have hle := w1.le
  have hwf := w1.wf
  have HR := Lib.hid w1.row
  have HOB := Lib.hid (fun W hW => lobjects_any a1 len1 cap1 (z1.take len1) W hW (fun k hk => bounds_i64 (hwf k hk)) (by unfold maxLen at hle; omega))
  obtain ⟨ha2, hb2⟩ := bounds_i64 w2
  obtain ⟨ha3, hb3⟩ := bounds_i64 w3
  have CQ := Lib.hid (fun W => within_any a2 4 W ha2 hb2 (by omega) (by omega))
  rw [hq] at CQ
  have CL := Lib.hid (fun W hW => lentobjs_any a0 len0 cap0 z0 W hW (by omega))
  clear ho hoc hom hob hf hlen0 hv0 hle hwf w1 w2 w3 hq
  go_enter Try.func7, Try.ntmps7
  go_wp2_with (first
    | (go_at_call 34; refine CF.out.mono ?_; rintro e w' ⟨rfl, rfl⟩)
    | (go_at_call 35; refine (awake7_any _).mono ?_; rintro e w1 ⟨rfl, hb⟩; have HB1 := Lib.hid hb; clear hb)
    | (go_at_call 15; refine (CL.out _ (HOL.out.below HB1.out)).mono ?_; rintro e w2 ⟨rfl, hw2, hb2⟩; have HW2 := Lib.hid hw2; have HB2 := Lib.hid (HB1.out.trans (hb2.mono HB1.out.size)); have HM2 := Lib.hid (ol_of_whole (HOL.out.len) hw2); clear hw2 hb2)
    | (go_at_call 36; (with_reducible refine (icheck_any (some ⟨w1.heap.size, 0, none⟩) len0 (len0 + 3) z0 w2 v0 HM2.out (by omega) HV.out).mono ?_); rintro e w' ⟨rfl, d3, rfl⟩)
    | (go_at_call 37; (with_reducible refine (robjects_any a0 len0 cap0 z0 (w2.drewN d3) v0 (HOL.out.below (below_drewN HB2.out d3)) (by omega) HV.out).mono ?_); rintro e w' ⟨rfl, d4, rfl⟩)
    | (go_at_call 22; refine (staysobjs_any a0 len0 cap0 w1.heap.size z0 _ (HOL.out.below (below_drewN HB2.out _)) (WholeV.drewN HW2.out _) (by omega)).mono ?_; rintro e w' ⟨rfl, d5, rfl⟩)
    | (go_at_call 38; refine (HOB.out _ ((HR.out.below (below_drewN HB2.out _)).more (below_drewN HB2.out _).size)).mono ?_; rintro e w4 ⟨B, m, d, os, rfl, hg, hown, hb⟩; have HG := Lib.hid hg; have HOW := Lib.hid hown; have HB4 := Lib.hid ((below_drewN HB2.out _).trans (hb.mono (below_drewN HB2.out _).size)); clear hb hg hown))
  have hm : os.length = m := by have := HOW.out.1; rw [obs_length] at this; omega
  subst hm
  have h3 := HG.out.l3
  have h43 := HG.out.l43
  have hcap := own2_cap HOW.out
  obtain ⟨gO, cO, hvO, hgO, hltO, hcO, hfO, hsO⟩ := own2_open HOW.out (by omega)
  injection hvO with e1 e2 e3
  subst e1 e3
  have HSO := Lib.hid hsO
  have HL4 := Lib.hid (ol_of_own HOW.out)
  obtain ⟨le, hle⟩ : ∃ le, levelOf os = le := ⟨_, rfl⟩
  have hll : (le != le) = false := by simp
  have C1 := Lib.hid (icheck_any (some ⟨gO, 0, none⟩) os.length d os w4 0 HL4.out (by omega) (good_check HG.out))
  have C2 := Lib.hid (fun e => ilevel_any (some ⟨gO, 0, none⟩) os.length d os le (w4.drewN e) HL4.out (by omega) hcap hle)
  have C3 := Lib.hid (fun e => rlevel_any (some ⟨gO, 0, none⟩) os.length d os (w4.drewN e) le HG.out HL4.out hle)
  have C4 := Lib.hid (fun W => within_any a3 (os.length : Int) W ha3 hb3 (by omega) (by omega))
  obtain ⟨k, hk⟩ : ∃ k : Nat, a3 % (os.length : Int) = (k : Int) := ⟨(a3 % (os.length : Int)).toNat, by have := Int.emod_nonneg a3 (show (os.length : Int) ≠ 0 by omega); omega⟩
  have hk1 : k < os.length := by have := Int.emod_lt_of_pos a3 (show (0 : Int) < (os.length : Int) by omega); omega
  rw [hk] at C4
  have hbO : w.heap.size ≤ gO := by have := HB2.out.size; simp at hgO; omega
  have hc0 := hcO (2 * k) (by omega)
  have hc1 := hcO (2 * k + 1) (by omega)
  rw [obs_id os k hk1] at hc0
  rw [obs_val os k hk1] at hc1
  rw [Nat.mul_comm 2 k] at hc0 hc1
  have hf0 := hfO (k * 2)
  have hf1 := hfO (k * 2 + 1)
  have hki : (k : Int) < (os.length : Int) := by omega
  clear hk hle hcO hfO hsO
  go_wp2_with (first
    | (go_at_call 36; (with_reducible refine C1.out.mono ?_); rintro e w' ⟨rfl, e1, rfl⟩)
    | (go_at_call 39; (with_reducible refine (C2.out _).mono ?_); rintro e w' ⟨rfl, e2, rfl⟩)
    | (go_at_call 40; (with_reducible refine (C3.out _).mono ?_); rintro e w' ⟨rfl, e3, rfl⟩)
    | (go_at_call 23; (with_reducible refine (C4.out _).mono ?_); rintro e w' ⟨rfl, rfl⟩)
    | (go_at_call 23; (with_reducible refine (CQ.out _).mono ?_); rintro e w' ⟨rfl, rfl⟩))
  have HO6 : Hid (((w4.drewN (e1 + e2 + e3)).setCell ⟨gO, k * 2, none⟩ (.int .i64 a3)).ownsRow w.heap.size 67 2 (.slice (some ⟨gO, 0, none⟩) os.length d) os.length (obs (os.set k (a3, (os.getD k ob0).2)))) := Lib.hid (by
    have h := HSO.out (k * 2) (.int .i64 a3)
    rw [obs_setId] at h
    exact own2_mono h (by have := HB2.out.size; simpa using this))
  have hl6 : (os.set k (a3, (os.getD k ob0).2)).length = os.length := List.length_set ..
  clear hl6
  obtain ⟨v6, hv6⟩ : ∃ v, checkOf (os.set k (a3, (os.getD k ob0).2)) = v := ⟨_, rfl⟩
  have hv66 : (v6 == v6) = true := by simp
  have C6 := Lib.hid (icheck_any (some ⟨gO, 0, none⟩) os.length d (os.set k (a3, (os.getD k ob0).2)) ((w4.drewN (e1 + e2 + e3)).setCell ⟨gO, k * 2, none⟩ (.int .i64 a3)) v6 (ol_of_own HO6.out) (by omega) hv6)
  have C7 := Lib.hid (fun e => robjects_any (some ⟨gO, 0, none⟩) os.length d (os.set k (a3, (os.getD k ob0).2)) (((w4.drewN (e1 + e2 + e3)).setCell ⟨gO, k * 2, none⟩ (.int .i64 a3)).drewN e) v6 (show OL _ _ _ _ _ from ol_of_own HO6.out) (by omega) hv6)
  clear hv6
  go_wp2_with (first
    | (go_at_call 36; refine C6.out.mono ?_; rintro e w' ⟨rfl, e6, rfl⟩)
    | (go_at_call 37; refine (C7.out _).mono ?_; rintro e w' ⟨rfl, e7, rfl⟩))
  go_ret
  exact ⟨rfl, below_drewN ((below_drewN HB4.out _).setCell hbO _) _⟩

set_option maxRecDepth 100000 in
set_option maxHeartbeats 4000000 in
theorem walk_1 (a0 : Option Addr) (len0 cap0 : Nat) (z0 : List Ob) (a1 : Option Addr) (len1 cap1 : Nat) (z1 : List Int) (a2 : Int) (a3 : Int) (w : World) (w0 : IsObjs w a0 len0 cap0 z0) (w1 : IsRow .i64 w a1 len1 cap1 z1) (w2 : (Lit.int .i64 a2).wf = true) (w3 : (Lit.int .i64 a3).wf = true) (hf : fewP z0) (hq : a2 % 4 = 1) :
    Calls Try.prog 7 #[.slice a0 len0 cap0, .slice a1 len1 cap1, .int .i64 a2, .int .i64 a3] w fun e w' => e = .returned (.bool true) ∧ Below w.heap.size w w' := by
  obtain ⟨ho, hoc, hom, hob⟩ := w0
  have hlen0 := ho.len
  have CF := Lib.hid (few7_any a0 len0 cap0 z0 true w ho (by unfold maxLen at hom; omega) (fun k hk => by have := (hob _ (goodL.getD_mem k (by rw [ho.len]; exact hk))).2; unfold maxLen at this; omega) (decide_eq_true hf))
  have hn60 : len0 ≤ 60 := by have := hf.1; omega
  obtain ⟨v0, hv0⟩ : ∃ v, checkOf z0 = v := ⟨_, rfl⟩
  have hvv : (v0 != v0) = false := by simp
  have HOL := Lib.hid ho
  have HV := Lib.hid hv0
  have hle := w1.le
  have hwf := w1.wf
  have HR := Lib.hid w1.row
  have HOB := Lib.hid (fun W hW => lobjects_any a1 len1 cap1 (z1.take len1) W hW (fun k hk => bounds_i64 (hwf k hk)) (by unfold maxLen at hle; omega))
  obtain ⟨ha2, hb2⟩ := bounds_i64 w2
  obtain ⟨ha3, hb3⟩ := bounds_i64 w3
  have CQ := Lib.hid (fun W => within_any a2 4 W ha2 hb2 (by omega) (by omega))
  rw [hq] at CQ
  have CL := Lib.hid (fun W hW => lentobjs_any a0 len0 cap0 z0 W hW (by omega))
  clear ho hoc hom hob hf hlen0 hv0 hle hwf w1 w2 w3 hq
  go_enter Try.func7, Try.ntmps7
  go_wp2_with (first
    | (go_at_call 34; refine CF.out.mono ?_; rintro e w' ⟨rfl, rfl⟩)
    | (go_at_call 35; refine (awake7_any _).mono ?_; rintro e w1 ⟨rfl, hb⟩; have HB1 := Lib.hid hb; clear hb)
    | (go_at_call 15; refine (CL.out _ (HOL.out.below HB1.out)).mono ?_; rintro e w2 ⟨rfl, hw2, hb2⟩; have HW2 := Lib.hid hw2; have HB2 := Lib.hid (HB1.out.trans (hb2.mono HB1.out.size)); have HM2 := Lib.hid (ol_of_whole (HOL.out.len) hw2); clear hw2 hb2)
    | (go_at_call 36; (with_reducible refine (icheck_any (some ⟨w1.heap.size, 0, none⟩) len0 (len0 + 3) z0 w2 v0 HM2.out (by omega) HV.out).mono ?_); rintro e w' ⟨rfl, d3, rfl⟩)
    | (go_at_call 37; (with_reducible refine (robjects_any a0 len0 cap0 z0 (w2.drewN d3) v0 (HOL.out.below (below_drewN HB2.out d3)) (by omega) HV.out).mono ?_); rintro e w' ⟨rfl, d4, rfl⟩)
    | (go_at_call 22; refine (staysobjs_any a0 len0 cap0 w1.heap.size z0 _ (HOL.out.below (below_drewN HB2.out _)) (WholeV.drewN HW2.out _) (by omega)).mono ?_; rintro e w' ⟨rfl, d5, rfl⟩)
    | (go_at_call 38; refine (HOB.out _ ((HR.out.below (below_drewN HB2.out _)).more (below_drewN HB2.out _).size)).mono ?_; rintro e w4 ⟨B, m, d, os, rfl, hg, hown, hb⟩; have HG := Lib.hid hg; have HOW := Lib.hid hown; have HB4 := Lib.hid ((below_drewN HB2.out _).trans (hb.mono (below_drewN HB2.out _).size)); clear hb hg hown))
  have hm : os.length = m := by have := HOW.out.1; rw [obs_length] at this; omega
  subst hm
  have h3 := HG.out.l3
  have h43 := HG.out.l43
  have hcap := own2_cap HOW.out
  obtain ⟨gO, cO, hvO, hgO, hltO, hcO, hfO, hsO⟩ := own2_open HOW.out (by omega)
  injection hvO with e1 e2 e3
  subst e1 e3
  have HSO := Lib.hid hsO
  have HL4 := Lib.hid (ol_of_own HOW.out)
  obtain ⟨le, hle⟩ : ∃ le, levelOf os = le := ⟨_, rfl⟩
  have hll : (le != le) = false := by simp
  have C1 := Lib.hid (icheck_any (some ⟨gO, 0, none⟩) os.length d os w4 0 HL4.out (by omega) (good_check HG.out))
  have C2 := Lib.hid (fun e => ilevel_any (some ⟨gO, 0, none⟩) os.length d os le (w4.drewN e) HL4.out (by omega) hcap hle)
  have C3 := Lib.hid (fun e => rlevel_any (some ⟨gO, 0, none⟩) os.length d os (w4.drewN e) le HG.out HL4.out hle)
  have C4 := Lib.hid (fun W => within_any a3 (os.length : Int) W ha3 hb3 (by omega) (by omega))
  obtain ⟨k, hk⟩ : ∃ k : Nat, a3 % (os.length : Int) = (k : Int) := ⟨(a3 % (os.length : Int)).toNat, by have := Int.emod_nonneg a3 (show (os.length : Int) ≠ 0 by omega); omega⟩
  have hk1 : k < os.length := by have := Int.emod_lt_of_pos a3 (show (0 : Int) < (os.length : Int) by omega); omega
  rw [hk] at C4
  have hbO : w.heap.size ≤ gO := by have := HB2.out.size; simp at hgO; omega
  have hc0 := hcO (2 * k) (by omega)
  have hc1 := hcO (2 * k + 1) (by omega)
  rw [obs_id os k hk1] at hc0
  rw [obs_val os k hk1] at hc1
  rw [Nat.mul_comm 2 k] at hc0 hc1
  have hf0 := hfO (k * 2)
  have hf1 := hfO (k * 2 + 1)
  have hki : (k : Int) < (os.length : Int) := by omega
  clear hk hle hcO hfO hsO
  obtain ⟨t, ht⟩ : ∃ t : Nat, a3 % 9 = (t : Int) := ⟨(a3 % 9).toNat, by omega⟩
  have ht9 : t < 9 := by omega
  have C9 := Lib.hid (fun W => within_any a3 9 W ha3 hb3 (by omega) (by omega))
  rw [ht] at C9
  have hmk : ∀ W : World, (Instr.makeSlice 33 (.int .i64 (240 + (t : Int))) (.int .i64 (240 + (t : Int)))).run Try.prog W = .ok (.slice (some ⟨W.heap.size, 0, none⟩) (240 + t) (240 + t)) (W.alloc (.cells (Array.replicate (240 + t) (Value.int .u8 0)) 5)) := fun W => by
    have h := make_bytes (240 + t) (by omega) W
    rw [List.map_replicate, List.toArray_replicate] at h
    exact h
  obtain ⟨S, hS⟩ : ∃ S, strOfNums (List.replicate (240 + t) (0 : Int)) = S := ⟨_, rfl⟩
  have hcv : ∀ e : Nat, (convert 33 9 (.slice (some ⟨w4.heap.size, 0, none⟩) (240 + t) (240 + t))).run Try.prog ((w4.drewN e).alloc (.cells (Array.replicate (240 + t) (Value.int .u8 0)) 5)) = .ok (.string S) ((w4.drewN e).alloc (.cells (Array.replicate (240 + t) (Value.int .u8 0)) 5)) := fun e => by
    have hw : Whole .u8 ((w4.drewN e).alloc (.cells (Array.replicate (240 + t) (Value.int .u8 0)) 5)) w4.heap.size 5 (List.replicate (240 + t) 0) := by
      have h : Whole .u8 ((w4.drewN e).alloc (.cells ((List.replicate (240 + t) (0 : Int)).map (Value.int .u8)).toArray 5)) (w4.drewN e).heap.size 5 (List.replicate (240 + t) 0) := heap_alloc_new _ _
      rw [List.map_replicate, List.toArray_replicate] at h
      exact h
    have hr := hw.row
    rw [List.length_replicate] at hr
    rw [← hS]
    exact conv_row _ _ _ _ _ hr
  have hca : ∀ e : Nat, ((w4.drewN e).alloc (.cells (Array.replicate (240 + t) (Value.int .u8 0)) 5)).cell? ⟨gO, k * 2 + 1, none⟩ = some (.string (os.getD k ob0).2) := fun e => (World.cell?_alloc_lt (w4.drewN e) _ ⟨gO, k * 2 + 1, none⟩ hltO).trans hc1
  have hfa : ∀ e : Nat, ((w4.drewN e).alloc (.cells (Array.replicate (240 + t) (Value.int .u8 0)) 5)).frozen? ⟨gO, k * 2 + 1, none⟩ = false := fun e => (((Below.refl _ (w4.drewN e)).alloc (Nat.le_refl _) _).frozen (p := ⟨gO, k * 2 + 1, none⟩) hltO).trans hf1
  clear ht hS
  go_wp2_with (first
    | (go_at_call 36; (with_reducible refine C1.out.mono ?_); rintro e w' ⟨rfl, e1, rfl⟩)
    | (go_at_call 39; (with_reducible refine (C2.out _).mono ?_); rintro e w' ⟨rfl, e2, rfl⟩)
    | (go_at_call 40; (with_reducible refine (C3.out _).mono ?_); rintro e w' ⟨rfl, e3, rfl⟩)
    | (go_at_call 23; (with_reducible refine (C4.out _).mono ?_); rintro e w' ⟨rfl, rfl⟩)
    | (go_at_call 23; (with_reducible refine (CQ.out _).mono ?_); rintro e w' ⟨rfl, rfl⟩)
    | (go_at_call 23; (with_reducible refine (C9.out _).mono ?_); rintro e w' ⟨rfl, rfl⟩))
  have HO6 : Hid ((((w4.drewN (e1 + e2 + e3)).alloc (.cells (Array.replicate (240 + t) (Value.int .u8 0)) 5)).setCell ⟨gO, k * 2 + 1, none⟩ (.string S)).ownsRow w.heap.size 67 2 (.slice (some ⟨gO, 0, none⟩) os.length d) os.length (obs (os.set k ((os.getD k ob0).1, S)))) := Lib.hid (by
    have h := own2_set (own2_keep HOW.out ((below_drewN (Below.refl _ _) (e1 + e2 + e3)).alloc (Nat.le_refl _) (.cells (Array.replicate (240 + t) (Value.int .u8 0)) 5))) (by omega) (k * 2 + 1) (.string S)
    rw [Nat.mul_comm k 2, obs_set, Nat.mul_comm 2 k] at h
    have h2 := own2_mono h (by have := HB2.out.size; simpa using this : w.heap.size ≤ _)
    exact h2)
  obtain ⟨v6, hv6⟩ : ∃ v, checkOf (os.set k ((os.getD k ob0).1, S)) = v := ⟨_, rfl⟩
  have hv66 : (v6 == v6) = true := by simp
  have C6 := Lib.hid (icheck_any (some ⟨gO, 0, none⟩) os.length d (os.set k ((os.getD k ob0).1, S)) (((w4.drewN (e1 + e2 + e3)).alloc (.cells (Array.replicate (240 + t) (Value.int .u8 0)) 5)).setCell ⟨gO, k * 2 + 1, none⟩ (.string S)) v6 (ol_of_own HO6.out) (by omega) hv6)
  have C7 := Lib.hid (fun e => robjects_any (some ⟨gO, 0, none⟩) os.length d (os.set k ((os.getD k ob0).1, S)) ((((w4.drewN (e1 + e2 + e3)).alloc (.cells (Array.replicate (240 + t) (Value.int .u8 0)) 5)).setCell ⟨gO, k * 2 + 1, none⟩ (.string S)).drewN e) v6 (show OL _ _ _ _ _ from ol_of_own HO6.out) (by omega) hv6)
  clear hv6
  go_wp2_with (first
    | (go_at_call 36; refine C6.out.mono ?_; rintro e w' ⟨rfl, e6, rfl⟩)
    | (go_at_call 37; refine (C7.out _).mono ?_; rintro e w' ⟨rfl, e7, rfl⟩))
  go_ret
  exact ⟨rfl, below_drewN (((below_drewN HB4.out _).alloc (by simpa using HB4.out.size) _).setCell hbO _) _⟩

set_option maxRecDepth 100000 in
set_option maxHeartbeats 4000000 in
theorem walk_2 (a0 : Option Addr) (len0 cap0 : Nat) (z0 : List Ob) (a1 : Option Addr) (len1 cap1 : Nat) (z1 : List Int) (a2 : Int) (a3 : Int) (w : World) (w0 : IsObjs w a0 len0 cap0 z0) (w1 : IsRow .i64 w a1 len1 cap1 z1) (w2 : (Lit.int .i64 a2).wf = true) (w3 : (Lit.int .i64 a3).wf = true) (hf : fewP z0) (hq : a2 % 4 = 2) :
    Calls Try.prog 7 #[.slice a0 len0 cap0, .slice a1 len1 cap1, .int .i64 a2, .int .i64 a3] w fun e w' => e = .returned (.bool true) ∧ Below w.heap.size w w' := by
  obtain ⟨ho, hoc, hom, hob⟩ := w0
  have hlen0 := ho.len
  have CF := Lib.hid (few7_any a0 len0 cap0 z0 true w ho (by unfold maxLen at hom; omega) (fun k hk => by have := (hob _ (goodL.getD_mem k (by rw [ho.len]; exact hk))).2; unfold maxLen at this; omega) (decide_eq_true hf))
  have hn60 : len0 ≤ 60 := by have := hf.1; omega
  obtain ⟨v0, hv0⟩ : ∃ v, checkOf z0 = v := ⟨_, rfl⟩
  have hvv : (v0 != v0) = false := by simp
  have HOL := Lib.hid ho
  have HV := Lib.hid hv0
  have hle := w1.le
  have hwf := w1.wf
  have HR := Lib.hid w1.row
  have HOB := Lib.hid (fun W hW => lobjects_any a1 len1 cap1 (z1.take len1) W hW (fun k hk => bounds_i64 (hwf k hk)) (by unfold maxLen at hle; omega))
  obtain ⟨ha2, hb2⟩ := bounds_i64 w2
  obtain ⟨ha3, hb3⟩ := bounds_i64 w3
  have CQ := Lib.hid (fun W => within_any a2 4 W ha2 hb2 (by omega) (by omega))
  rw [hq] at CQ
  have CL := Lib.hid (fun W hW => lentobjs_any a0 len0 cap0 z0 W hW (by omega))
  clear ho hoc hom hob hf hlen0 hv0 hle hwf w1 w2 w3 hq
  go_enter Try.func7, Try.ntmps7
  go_wp2_with (first
    | (go_at_call 34; refine CF.out.mono ?_; rintro e w' ⟨rfl, rfl⟩)
    | (go_at_call 35; refine (awake7_any _).mono ?_; rintro e w1 ⟨rfl, hb⟩; have HB1 := Lib.hid hb; clear hb)
    | (go_at_call 15; refine (CL.out _ (HOL.out.below HB1.out)).mono ?_; rintro e w2 ⟨rfl, hw2, hb2⟩; have HW2 := Lib.hid hw2; have HB2 := Lib.hid (HB1.out.trans (hb2.mono HB1.out.size)); have HM2 := Lib.hid (ol_of_whole (HOL.out.len) hw2); clear hw2 hb2)
    | (go_at_call 36; (with_reducible refine (icheck_any (some ⟨w1.heap.size, 0, none⟩) len0 (len0 + 3) z0 w2 v0 HM2.out (by omega) HV.out).mono ?_); rintro e w' ⟨rfl, d3, rfl⟩)
    | (go_at_call 37; (with_reducible refine (robjects_any a0 len0 cap0 z0 (w2.drewN d3) v0 (HOL.out.below (below_drewN HB2.out d3)) (by omega) HV.out).mono ?_); rintro e w' ⟨rfl, d4, rfl⟩)
    | (go_at_call 22; refine (staysobjs_any a0 len0 cap0 w1.heap.size z0 _ (HOL.out.below (below_drewN HB2.out _)) (WholeV.drewN HW2.out _) (by omega)).mono ?_; rintro e w' ⟨rfl, d5, rfl⟩)
    | (go_at_call 38; refine (HOB.out _ ((HR.out.below (below_drewN HB2.out _)).more (below_drewN HB2.out _).size)).mono ?_; rintro e w4 ⟨B, m, d, os, rfl, hg, hown, hb⟩; have HG := Lib.hid hg; have HOW := Lib.hid hown; have HB4 := Lib.hid ((below_drewN HB2.out _).trans (hb.mono (below_drewN HB2.out _).size)); clear hb hg hown))
  have hm : os.length = m := by have := HOW.out.1; rw [obs_length] at this; omega
  subst hm
  have h3 := HG.out.l3
  have h43 := HG.out.l43
  have hcap := own2_cap HOW.out
  obtain ⟨gO, cO, hvO, hgO, hltO, hcO, hfO, hsO⟩ := own2_open HOW.out (by omega)
  injection hvO with e1 e2 e3
  subst e1 e3
  have HSO := Lib.hid hsO
  have HL4 := Lib.hid (ol_of_own HOW.out)
  obtain ⟨le, hle⟩ : ∃ le, levelOf os = le := ⟨_, rfl⟩
  have hll : (le != le) = false := by simp
  have C1 := Lib.hid (icheck_any (some ⟨gO, 0, none⟩) os.length d os w4 0 HL4.out (by omega) (good_check HG.out))
  have C2 := Lib.hid (fun e => ilevel_any (some ⟨gO, 0, none⟩) os.length d os le (w4.drewN e) HL4.out (by omega) hcap hle)
  have C3 := Lib.hid (fun e => rlevel_any (some ⟨gO, 0, none⟩) os.length d os (w4.drewN e) le HG.out HL4.out hle)
  have C4 := Lib.hid (fun W => within_any a3 (os.length : Int) W ha3 hb3 (by omega) (by omega))
  obtain ⟨k, hk⟩ : ∃ k : Nat, a3 % (os.length : Int) = (k : Int) := ⟨(a3 % (os.length : Int)).toNat, by have := Int.emod_nonneg a3 (show (os.length : Int) ≠ 0 by omega); omega⟩
  have hk1 : k < os.length := by have := Int.emod_lt_of_pos a3 (show (0 : Int) < (os.length : Int) by omega); omega
  rw [hk] at C4
  have hbO : w.heap.size ≤ gO := by have := HB2.out.size; simp at hgO; omega
  have hc0 := hcO (2 * k) (by omega)
  have hc1 := hcO (2 * k + 1) (by omega)
  rw [obs_id os k hk1] at hc0
  rw [obs_val os k hk1] at hc1
  rw [Nat.mul_comm 2 k] at hc0 hc1
  have hf0 := hfO (k * 2)
  have hf1 := hfO (k * 2 + 1)
  have hki : (k : Int) < (os.length : Int) := by omega
  clear hk hle hcO hfO hsO
  go_wp2_with (first
    | (go_at_call 36; (with_reducible refine C1.out.mono ?_); rintro e w' ⟨rfl, e1, rfl⟩)
    | (go_at_call 39; (with_reducible refine (C2.out _).mono ?_); rintro e w' ⟨rfl, e2, rfl⟩)
    | (go_at_call 40; (with_reducible refine (C3.out _).mono ?_); rintro e w' ⟨rfl, e3, rfl⟩)
    | (go_at_call 23; (with_reducible refine (C4.out _).mono ?_); rintro e w' ⟨rfl, rfl⟩)
    | (go_at_call 23; (with_reducible refine (CQ.out _).mono ?_); rintro e w' ⟨rfl, rfl⟩))
  obtain ⟨w5, hw5⟩ : ∃ w5, w4.drewN (e1 + e2 + e3) = w5 := ⟨_, rfl⟩
  have HOW5 : Hid (w5.ownsRow w.heap.size 67 2 (.slice (some ⟨gO, 0, none⟩) os.length d) os.length (obs os)) := Lib.hid (by rw [← hw5]; exact own2_mono HOW.out (by have := HB2.out.size; simpa using this : w.heap.size ≤ _))
  have HB5 : Hid (Below w.heap.size w w5) := Lib.hid (by rw [← hw5]; exact below_drewN HB4.out _)
  rw [hw5]
  clear hw5
  have HF := Lib.hid (own2_front HOW5.out (show k ≤ os.length by omega) (by omega))
  have HD5 := Lib.hid ((ol_of_own HOW5.out).drop (k + 1) (by omega))
  have hs1 : IntKind.i64.wrap ((k : Int) + 1) = (k : Int) + 1 := IntWalk.i64_in _ (by omega)
  have hs2 : (0 : Int) ≤ (k : Int) + 1 := by omega
  have hs3 : ((k : Int) + 1).toNat = k + 1 := by omega
  have hs4 : (k : Int) + 1 ≤ (os.length : Int) := by omega
  have hs5 : (k : Int) ≤ (d : Int) := by omega
  have hs6 : k ≤ d := by omega
  have hs7 : k + 1 ≤ os.length := by omega
  by_cases hcd : k + 1 = d
  · have hod : os.length - (k + 1) = 0 := by omega
    have HND : Hid (os.drop (k + 1) = []) := Lib.hid (List.drop_of_length_le (by omega))
    go_region_law (fail)
    have HF6 : Hid (w5.drew.ownsRow w.heap.size 67 2 (.slice (some ⟨gO, 0, none⟩) k d) k (obs (os.take k))) := Lib.hid (own2_keep HF.out (Below.refl _ _).drew)
    have HB7 := Lib.hid HB5.out.drew
    obtain ⟨w7, hw7⟩ : ∃ w7, w5.drew = w7 := ⟨_, rfl⟩
    rw [hw7] at HF6 HB7
    rw [hw7]
    clear hw7
    obtain ⟨v6, hv6⟩ : ∃ v, checkOf (os.take k) = v := ⟨_, rfl⟩
    have hv66 : (v6 == v6) = true := by simp
    have C6 := Lib.hid (icheck_any (some ⟨gO, 0, none⟩) k d (os.take k) w7 v6 (ol_of_own HF6.out) (by omega) hv6)
    have C7 := Lib.hid (fun e => robjects_any (some ⟨gO, 0, none⟩) k d (os.take k) (w7.drewN e) v6 (show OL _ _ _ _ _ from ol_of_own HF6.out) (by omega) hv6)
    clear hv6
    go_wp2_with (first
      | (go_at_call 36; refine C6.out.mono ?_; rintro e w' ⟨rfl, e6, rfl⟩)
      | (go_at_call 37; refine (C7.out _).mono ?_; rintro e w' ⟨rfl, e7, rfl⟩))
    go_ret
    exact ⟨rfl, below_drewN HB7.out _⟩
  · have hcd2 : ¬ d = k + 1 := fun h => hcd h.symm
    have HD6 : Hid (OL w5.drew w5.drew.heap.size (some ⟨gO, (k + 1) * 2, none⟩) (os.length - (k + 1)) (os.drop (k + 1))) := Lib.hid (by have h := HD5.out; rw [Nat.zero_add] at h; exact h)
    go_region_law (first
      | (refine step_append_obs (.tmp 73) (.tmp 77) w.heap.size (.slice (some ⟨gO, 0, none⟩) k d) k (os.take k) (os.length - (k + 1)) (os.drop (k + 1)) (by omega) ?_ ?_ ?_ ?_ ?_
         · exact ⟨rfl, rfl, by simp [eval_put_tmp, size_put]⟩
         · exact own2_keep HF.out (Below.refl _ _).drew
         · exact ⟨some ⟨gO, (k + 1) * 2, none⟩, d - (k + 1), (by simp [eval_put_tmp, size_put]), HD6.out⟩
         · exact HB5.out.drew.size
         intro A6 c6 w6 hown hg
         have HO6 := Lib.hid hown
         have HB6 : Hid (Below w.heap.size w w6) := Lib.hid (below_append2 HB5.out.drew (own2_keep HF.out (Below.refl _ _).drew) hg HB5.out.drew.size)
         clear hown hg))
    all_goals
      obtain ⟨v6, hv6⟩ : ∃ v, checkOf (os.take k ++ os.drop (k + 1)) = v := ⟨_, rfl⟩
      have hv66 : (v6 == v6) = true := by simp
      have C6 := Lib.hid (icheck_any A6 (k + (os.length - (k + 1))) c6 (os.take k ++ os.drop (k + 1)) w6 v6 (ol_of_own HO6.out) (by omega) hv6)
      have C7 := Lib.hid (fun e => robjects_any A6 (k + (os.length - (k + 1))) c6 (os.take k ++ os.drop (k + 1)) (w6.drewN e) v6 (show OL _ _ _ _ _ from ol_of_own HO6.out) (by omega) hv6)
      clear hv6
      go_wp2_with (first
        | (go_at_call 36; refine C6.out.mono ?_; rintro e w' ⟨rfl, e6, rfl⟩)
        | (go_at_call 37; refine (C7.out _).mono ?_; rintro e w' ⟨rfl, e7, rfl⟩))
      go_ret
      exact ⟨rfl, below_drewN HB6.out _⟩

set_option maxRecDepth 100000 in
set_option maxHeartbeats 4000000 in
theorem walk_3 (a0 : Option Addr) (len0 cap0 : Nat) (z0 : List Ob) (a1 : Option Addr) (len1 cap1 : Nat) (z1 : List Int) (a2 : Int) (a3 : Int) (w : World) (w0 : IsObjs w a0 len0 cap0 z0) (w1 : IsRow .i64 w a1 len1 cap1 z1) (w2 : (Lit.int .i64 a2).wf = true) (w3 : (Lit.int .i64 a3).wf = true) (hf : fewP z0) (hq : a2 % 4 = 3) :
    Calls Try.prog 7 #[.slice a0 len0 cap0, .slice a1 len1 cap1, .int .i64 a2, .int .i64 a3] w fun e w' => e = .returned (.bool true) ∧ Below w.heap.size w w' := by
  obtain ⟨ho, hoc, hom, hob⟩ := w0
  have hlen0 := ho.len
  have CF := Lib.hid (few7_any a0 len0 cap0 z0 true w ho (by unfold maxLen at hom; omega) (fun k hk => by have := (hob _ (goodL.getD_mem k (by rw [ho.len]; exact hk))).2; unfold maxLen at this; omega) (decide_eq_true hf))
  have hn60 : len0 ≤ 60 := by have := hf.1; omega
  obtain ⟨v0, hv0⟩ : ∃ v, checkOf z0 = v := ⟨_, rfl⟩
  have hvv : (v0 != v0) = false := by simp
  have HOL := Lib.hid ho
  have HV := Lib.hid hv0
  have hle := w1.le
  have hwf := w1.wf
  have HR := Lib.hid w1.row
  have HOB := Lib.hid (fun W hW => lobjects_any a1 len1 cap1 (z1.take len1) W hW (fun k hk => bounds_i64 (hwf k hk)) (by unfold maxLen at hle; omega))
  obtain ⟨ha2, hb2⟩ := bounds_i64 w2
  obtain ⟨ha3, hb3⟩ := bounds_i64 w3
  have CQ := Lib.hid (fun W => within_any a2 4 W ha2 hb2 (by omega) (by omega))
  rw [hq] at CQ
  have CL := Lib.hid (fun W hW => lentobjs_any a0 len0 cap0 z0 W hW (by omega))
  clear ho hoc hom hob hf hlen0 hv0 hle hwf w1 w2 w3 hq
  go_enter Try.func7, Try.ntmps7
  go_wp2_with (first
    | (go_at_call 34; refine CF.out.mono ?_; rintro e w' ⟨rfl, rfl⟩)
    | (go_at_call 35; refine (awake7_any _).mono ?_; rintro e w1 ⟨rfl, hb⟩; have HB1 := Lib.hid hb; clear hb)
    | (go_at_call 15; refine (CL.out _ (HOL.out.below HB1.out)).mono ?_; rintro e w2 ⟨rfl, hw2, hb2⟩; have HW2 := Lib.hid hw2; have HB2 := Lib.hid (HB1.out.trans (hb2.mono HB1.out.size)); have HM2 := Lib.hid (ol_of_whole (HOL.out.len) hw2); clear hw2 hb2)
    | (go_at_call 36; (with_reducible refine (icheck_any (some ⟨w1.heap.size, 0, none⟩) len0 (len0 + 3) z0 w2 v0 HM2.out (by omega) HV.out).mono ?_); rintro e w' ⟨rfl, d3, rfl⟩)
    | (go_at_call 37; (with_reducible refine (robjects_any a0 len0 cap0 z0 (w2.drewN d3) v0 (HOL.out.below (below_drewN HB2.out d3)) (by omega) HV.out).mono ?_); rintro e w' ⟨rfl, d4, rfl⟩)
    | (go_at_call 22; refine (staysobjs_any a0 len0 cap0 w1.heap.size z0 _ (HOL.out.below (below_drewN HB2.out _)) (WholeV.drewN HW2.out _) (by omega)).mono ?_; rintro e w' ⟨rfl, d5, rfl⟩)
    | (go_at_call 38; refine (HOB.out _ ((HR.out.below (below_drewN HB2.out _)).more (below_drewN HB2.out _).size)).mono ?_; rintro e w4 ⟨B, m, d, os, rfl, hg, hown, hb⟩; have HG := Lib.hid hg; have HOW := Lib.hid hown; have HB4 := Lib.hid ((below_drewN HB2.out _).trans (hb.mono (below_drewN HB2.out _).size)); clear hb hg hown))
  have hm : os.length = m := by have := HOW.out.1; rw [obs_length] at this; omega
  subst hm
  have h3 := HG.out.l3
  have h43 := HG.out.l43
  have hcap := own2_cap HOW.out
  obtain ⟨gO, cO, hvO, hgO, hltO, hcO, hfO, hsO⟩ := own2_open HOW.out (by omega)
  injection hvO with e1 e2 e3
  subst e1 e3
  have HSO := Lib.hid hsO
  have HL4 := Lib.hid (ol_of_own HOW.out)
  obtain ⟨le, hle⟩ : ∃ le, levelOf os = le := ⟨_, rfl⟩
  have hll : (le != le) = false := by simp
  have C1 := Lib.hid (icheck_any (some ⟨gO, 0, none⟩) os.length d os w4 0 HL4.out (by omega) (good_check HG.out))
  have C2 := Lib.hid (fun e => ilevel_any (some ⟨gO, 0, none⟩) os.length d os le (w4.drewN e) HL4.out (by omega) hcap hle)
  have C3 := Lib.hid (fun e => rlevel_any (some ⟨gO, 0, none⟩) os.length d os (w4.drewN e) le HG.out HL4.out hle)
  have C4 := Lib.hid (fun W => within_any a3 (os.length : Int) W ha3 hb3 (by omega) (by omega))
  obtain ⟨k, hk⟩ : ∃ k : Nat, a3 % (os.length : Int) = (k : Int) := ⟨(a3 % (os.length : Int)).toNat, by have := Int.emod_nonneg a3 (show (os.length : Int) ≠ 0 by omega); omega⟩
  have hk1 : k < os.length := by have := Int.emod_lt_of_pos a3 (show (0 : Int) < (os.length : Int) by omega); omega
  rw [hk] at C4
  have hbO : w.heap.size ≤ gO := by have := HB2.out.size; simp at hgO; omega
  have hc0 := hcO (2 * k) (by omega)
  have hc1 := hcO (2 * k + 1) (by omega)
  rw [obs_id os k hk1] at hc0
  rw [obs_val os k hk1] at hc1
  rw [Nat.mul_comm 2 k] at hc0 hc1
  have hf0 := hfO (k * 2)
  have hf1 := hfO (k * 2 + 1)
  have hki : (k : Int) < (os.length : Int) := by omega
  clear hk hle hcO hfO hsO
  obtain ⟨x, hx⟩ : ∃ x, (os.getD k ob0).1 = x := ⟨_, rfl⟩
  obtain ⟨S, hS⟩ : ∃ S, (os.getD k ob0).2 = S := ⟨_, rfl⟩
  rw [hx] at hc0
  rw [hS] at hc1
  clear hx hS
  have HOM := Lib.hid (own2_mono HOW.out (by have := HB2.out.size; simpa using this : w.heap.size ≤ _))
  go_wp2_with (first
    | (go_at_call 36; (with_reducible refine C1.out.mono ?_); rintro e w' ⟨rfl, e1, rfl⟩)
    | (go_at_call 39; (with_reducible refine (C2.out _).mono ?_); rintro e w' ⟨rfl, e2, rfl⟩)
    | (go_at_call 40; (with_reducible refine (C3.out _).mono ?_); rintro e w' ⟨rfl, e3, rfl⟩)
    | (go_at_call 23; (with_reducible refine (C4.out _).mono ?_); rintro e w' ⟨rfl, rfl⟩)
    | (go_at_call 23; (with_reducible refine (CQ.out _).mono ?_); rintro e w' ⟨rfl, rfl⟩)
    | (at_builtin
       refine wpList_append_obs _ (o := ⟨some 87, _, _, _, _, _⟩) rfl (.tmp 81) (.tmp 86) rfl w.heap.size (.slice (some ⟨gO, 0, none⟩) os.length d) os.length os rfl (own2_keep HOM.out ((below_drewN (Below.refl _ _) _).alloc (Nat.le_refl _) _)) _ (some ⟨w4.heap.size, 0, none⟩) 1 1 [(x, S)] rfl (ol_of_own (own2_new (w4.drewN _) [(x, S)] 67 1 rfl (by omega))) (by omega) (by have := HB4.out.size; simp; omega) ?_
       intro v2 w6 hown hg
       obtain ⟨A6, c6, rfl⟩ := own2_slice hown
       have HO6 := Lib.hid hown
       have HB6 := Lib.hid (below_append2 ((below_drewN HB4.out _).alloc (by have := HB4.out.size; simpa using this) _) (own2_keep HOM.out ((below_drewN (Below.refl _ _) _).alloc (Nat.le_refl _) _)) hg (by have := HB4.out.size; simp; omega))
       clear hown hg))
  obtain ⟨v6, hv6⟩ : ∃ v, checkOf (os ++ [(x, S)]) = v := ⟨_, rfl⟩
  have hv66 : (v6 == v6) = true := by simp
  have C6 := Lib.hid (icheck_any A6 (os.length + 1) c6 (os ++ [(x, S)]) w6 v6 (ol_of_own HO6.out) (by omega) hv6)
  have C7 := Lib.hid (fun e => robjects_any A6 (os.length + 1) c6 (os ++ [(x, S)]) (w6.drewN e) v6 (show OL _ _ _ _ _ from ol_of_own HO6.out) (by omega) hv6)
  clear hv6
  go_wp2_with (first
    | (go_at_call 36; refine C6.out.mono ?_; rintro e w' ⟨rfl, e6, rfl⟩)
    | (go_at_call 37; refine (C7.out _).mono ?_; rintro e w' ⟨rfl, e7, rfl⟩))
  go_ret
  exact ⟨rfl, below_drewN HB6.out _⟩

theorem walk (a0 : Option Addr) (len0 cap0 : Nat) (z0 : List Ob) (a1 : Option Addr) (len1 cap1 : Nat) (z1 : List Int) (a2 : Int) (a3 : Int) (w : World) (w0 : IsObjs w a0 len0 cap0 z0) (w1 : IsRow .i64 w a1 len1 cap1 z1) (w2 : (Lit.int .i64 a2).wf = true) (w3 : (Lit.int .i64 a3).wf = true) :
    Calls Try.prog 7 #[.slice a0 len0 cap0, .slice a1 len1 cap1, .int .i64 a2, .int .i64 a3] w fun e w' => e = .returned (.bool true) ∧ Below w.heap.size w w' := by
  by_cases hf : fewP z0
  · rcases (show a2 % 4 = 0 ∨ a2 % 4 = 1 ∨ a2 % 4 = 2 ∨ a2 % 4 = 3 by omega) with hq | hq | hq | hq
    · exact walk_0 a0 len0 cap0 z0 a1 len1 cap1 z1 a2 a3 w w0 w1 w2 w3 hf hq
    · exact walk_1 a0 len0 cap0 z0 a1 len1 cap1 z1 a2 a3 w w0 w1 w2 w3 hf hq
    · exact walk_2 a0 len0 cap0 z0 a1 len1 cap1 z1 a2 a3 w w0 w1 w2 w3 hf hq
    · exact walk_3 a0 len0 cap0 z0 a1 len1 cap1 z1 a2 a3 w w0 w1 w2 w3 hf hq
  · exact walk_many a0 len0 cap0 z0 a1 len1 cap1 z1 a2 a3 w w0 w1 w2 w3 hf

set_option maxRecDepth 100000 in
theorem lifted (os : Os) (started : os.Started) (H : Type) (enc : TypeId × Value → H) :
    ReturnsInHanded {} Try.checked os 7 .any (Rows.idenChecksSpec.pre6 enc Try.prog Try.f7 Rows.idenChecksRow.domain false) (Rows.idenChecksSpec.post enc Try.prog Try.f7 false true false false) := by
  refine returnsInHanded_of_change (C := Try.checked) own started (by kernel_rfl) Try.func7
    (ChangeSpec.witness6 (enc := enc) (C := Try.checked) false ⟨#[], #[.slice none 0 0, .slice none 0 0, .int .i64 0, .int .i64 0], []⟩ 8 (by kernel_rfl) (by kernel_rfl) (by kernel_rfl) (by kernel_rfl)) ?_
  intro W base args ds gs before hval0 hW hcnd _
  have hval : ∀ (j : Nat) t v, Try.f7.params[j]? = some t → args[j]? = some v → Value.okWide Try.prog W .any base t v := hval0
  have hW' := hW
  obtain ⟨p, q, hA0, hV, rfl, hfz, hnd⟩ := hW
  have hA : DataW.TrodAll enc Try.prog W 0 (fun _ => true) true Try.f7.params.toList args.toList ds p := hA0
  rw [Try.params7] at hA hval
  obtain ⟨v0, vs0, d0, ds0, p0, q0, hargs, rfl, rfl, h0, r0⟩ := trodAll_cons hA
  obtain ⟨v1, vs1, d1, ds1, p1, q1, rfl, rfl, rfl, h1, r1⟩ := trodAll_cons r0
  obtain ⟨v2, vs2, d2, ds2, p2, q2, rfl, rfl, rfl, h2, r2⟩ := trodAll_cons r1
  obtain ⟨v3, vs3, d3, ds3, p3, q3, rfl, rfl, rfl, h3, r3⟩ := trodAll_cons r2
  obtain ⟨rfl, rfl, rfl⟩ := trodAll_nil r3
  obtain rfl : args = #[v0, v1, v2, v3] := by cases args; simp_all
  obtain ⟨rfl, rfl⟩ := trodVars_none hV
  obtain ⟨a0, len0, cap0, rfl⟩ := okWide_slice Try.underlying25 (hval 0 25 v0 rfl rfl)
  have k0 := h0
  have lt0 : ∀ x ∈ p0, x.block < W.heap.size := by obtain ⟨m, hm⟩ := k0; exact DataW.trod_lt m _ _ _ hm
  obtain ⟨z0, w0⟩ : ∃ zs, IsObjs W a0 len0 cap0 zs := by
    obtain ⟨fuel, hf⟩ := h0
    obtain ⟨A, n, c, os, hcs, ho⟩ := open_objs hf
    simp [Value.cells] at hcs
    obtain ⟨rfl, rfl, rfl⟩ := hcs
    exact ⟨os, ho⟩
  obtain ⟨a1, len1, cap1, rfl⟩ := okWide_slice Try.underlying49 (hval 1 49 v1 rfl rfl)
  have k1 := h1
  have lt1 : ∀ x ∈ p1, x.block < W.heap.size := by obtain ⟨m, hm⟩ := k1; exact DataW.trod_lt m _ _ _ hm
  obtain ⟨z1, w1⟩ : ∃ zs, IsRow .i64 W a1 len1 cap1 zs := by
    obtain ⟨fuel, hf⟩ := h1
    rcases open_ints Try.underlying49 Try.underlying3 (by kernel_rfl) hf with ⟨hcs, _⟩ | ⟨x, l, c, zs, hcs, _, hl, hm, hz, _, hcell, hwz⟩
    · simp [Value.cells] at hcs
      obtain ⟨rfl, rfl, rfl⟩ := hcs
      exact ⟨[], .inl ⟨rfl, rfl, rfl, rfl⟩⟩
    · simp [Value.cells] at hcs
      obtain ⟨rfl, rfl, rfl⟩ := hcs
      exact ⟨zs, .inr ⟨_, rfl, hl, hm, by simpa using hz, hcell, hwz⟩⟩
  obtain ⟨a2, rfl, rfl, rfl, w2⟩ := open_int Try.underlying3 (hval 2 3 v2 rfl rfl) h2
  obtain ⟨a3, rfl, rfl, rfl, w3⟩ := open_int Try.underlying3 (hval 3 3 v3 rfl rfl) h3
  clear hA0 hval0
  refine (walk a0 len0 cap0 z0 a1 len1 cap1 z1 a2 a3 W w0 w1 w2 w3).mono fun e W' ⟨he, bel⟩ => ?_
  subst he
  exact ⟨_, rfl, _, _, _, [], _, [], hW', trodAll_mk1 (shut_bool Try.underlying4 _), (trodAll_cons_mk (Below.trod laidOut (by kernel_rfl) (of_decide_eq_true (by kernel_rfl)) k0 bel lt0) (trodAll_cons_mk (Below.trod laidOut (by kernel_rfl) (of_decide_eq_true (by kernel_rfl)) k1 bel lt1) (trodAll_cons_mk (shut_int Try.underlying3 w2) (trodAll_cons_mk (shut_int Try.underlying3 w3) trodAll_mk0)))), rfl, bel.frame _, fun h => by cases h⟩

theorem over : Rows.idenChecksRow.holds Try.pinned (OpenSpec.ofChange Rows.idenChecksSpec) :=
  OpenClaim.holds_of_wide 7 Try.f7 rfl rfl rfl rfl rfl rfl rfl ⟨rfl, rfl, rfl, rfl, rfl⟩ rfl rfl rfl rfl rfl (by kernel_rfl) Try.func7 (by kernel_rfl)
    (of_decide_eq_true (by kernel_rfl)) (by unfold Func.isWrapper; first | (rw [if_pos (by decide +kernel)]; kernel_rfl) | (rw [if_neg (by decide +kernel)]; exact ⟨rfl, rfl⟩))
    (fun os started H enc _ => lifted os started H enc)

theorem proved : Rows.IdenChecksSaid := over
#print axioms proved
end Go.Proofs.Ytiomhabdnajieaa.idenChecks

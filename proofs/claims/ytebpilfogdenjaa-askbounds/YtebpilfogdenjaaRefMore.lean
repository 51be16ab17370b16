/- Contracts of the document's Unpack and Set. -/
import Derived.Test.YtebpilfogdenjaaRefBits
import Derived.Test.YtebpilfogdenjaaBitsMore
namespace Go.Proofs.Ytebpilfogdenjaa
open Go.ChangeShapes Go.WideShapes Go.ChangeAt Go.RowKit
set_option linter.unusedVariables false

theorem refunpack_no (A : Option Addr) (m c : Nat) (n : Int) (w : World) (h0 : -9223372036854775808 ≤ n) (h1 : n ≤ 9223372036854775807) (h : n < 0 ∨ nbI n ≠ m) :
    Calls Try.prog 49 #[.slice A m c, .int .i64 n] w fun e w' => e = .returned (.tuple #[.slice none 0 0, .bool false]) ∧ w = w' := by
  by_cases hn : n < 0
  · clear h
    go_enter Try.func49, Try.ntmps49
    go_wp2
    go_ret2
    exact ⟨rfl, rfl⟩
  · have hne : (m : Int) ≠ nbI n := by omega
    obtain ⟨x, hx⟩ : ∃ x, x = nbI n := ⟨_, rfl⟩
    rw [← hx] at hne
    have hd : decide ((m : Int) = x) = false := by simp; exact hne
    have HC : Hid (∀ W, Calls Try.prog 50 #[.int .i64 n] W fun e w' => e = .returned (.int .i64 x) ∧ W = w') := fun W => by rw [hx]; exact refbytes_any n W h0 h1
    clear h hx
    go_enter Try.func49, Try.ntmps49
    go_wp2_with (go_at_call 50; refine (HC.out _).mono ?_; rintro e w1 ⟨rfl, rfl⟩)
    go_ret2
    exact ⟨rfl, rfl⟩

theorem refunpack_yes (A : Option Addr) (n c : Nat) (zs : List Int) (w : World) (hr : Row .u8 w w.heap.size A (nb n) zs) (hx : Bytes8 zs) (hn : n ≤ 100000) :
    Calls Try.prog 49 #[.slice A (nb n) c, .int .i64 (n : Int)] w fun e w' => ∃ B d, e = .returned (.tuple #[.slice B n d, .bool true]) ∧ BRow w' w'.heap.size B n (unb zs n) ∧ Below w.heap.size w w' := by
  have hnb : nb n ≤ 100000 := by have := nb_le n; omega
  have HR := Lib.hid hr
  have HX := Lib.hid hx
  have HB0 := Lib.hid (Below.refl w.heap.size w)
  clear hr hx
  go_enter Try.func49, Try.ntmps49
  go_wp2_with (go_at_call 50; refine (refbytes_nat _ _ (by omega)).mono ?_; rintro e w1 ⟨rfl, rfl⟩)
  go_loopw [6, 7] (fun b i wr => ∃ (k : Nat) (B : Option Addr) (cb : Nat), k ≤ n ∧ i = .int .i64 (k : Int) ∧ b = .slice B k cb ∧ Hid (wr.ownsRow w.heap.size 4 1 (.slice B k cb) k ((unb zs k).map Value.bool)) ∧ Hid (Below w.heap.size w wr)) (fun _ i _ => n - (intOf i).toNat)
  case atStart => exact ⟨0, none, 0, by omega, rfl, rfl, own_none _ _ _, HB0⟩
  case round =>
    obtain ⟨k, B, cb, hk, rfl, rfl, HK, HB⟩ := hrel
    by_cases hlt : k < n
    · have hi1 : (k : Int) < (n : Int) := by omega
      have HR2 := Lib.hid ((HR.out.below HB.out).more HB.out.size)
      go_wp2_with (first
        | (go_at_call 34
           refine (bit_any A (nb n) c zs (k : Int) _ HR2.out HX.out (by omega) (by omega) hnb).mono ?_
           rintro e w1 ⟨rfl, d1, rfl⟩
           have hw : WholeV ((wr.drewN d1).alloc (.cells #[.bool (bitI zs k)] 4)) (wr.drewN d1).heap.size 4 [.bool (bitI zs k)] := heap_alloc_new _ _
           have HW := Lib.hid hw.row
           have HO1 := Lib.hid ((show (wr.drewN d1).ownsRow w.heap.size 4 1 (.slice B k cb) k ((unb zs k).map Value.bool) from HK.out).alloc (o := .cells #[.bool (bitI zs k)] 4))
           have HB1 := Lib.hid ((below_drewN HB.out d1).alloc HB.out.size (.cells #[.bool (bitI zs k)] 4))
           clear hw)
        | (at_builtin
           refine wpList_append_row _ (o := ⟨some 27, _, _, _, _, _⟩) rfl (.tmp 22) (.tmp 26) 27 rfl w.heap.size 4 (.bool false) 1 Try.underlying27 infoBool rfl (.slice B k cb) k _ rfl HO1.out _ (some ⟨wr.heap.size, 0, none⟩) 1 1 [.bool (bitI zs k)] rfl HW.out (bools_oneCell [bitI zs k]) (by omega) (by omega) (by have := HB1.out.size; omega) ?_
           intro v2 w2 hown2 hg2 hat2
           obtain ⟨B2, c2, rfl⟩ := own_slice hown2
           have HO2 := Lib.hid hown2
           have HB2 := Lib.hid (below_append HB1.out HO1.out hg2 (by have := HB1.out.size; omega))
           clear hown2 hg2 hat2))
      go_roundw
      case rel =>
        refine ⟨k + 1, B2, c2, by omega, by go_num, rfl, ?_, HB2⟩
        have h := HO2.out
        rw [bitI_nat] at h
        rw [unb_succ, List.map_append]
        exact h
      case measure => simp [intOf]; omega
    · obtain rfl : n = k := by omega
      go_wp2
      go_ret2
      exact ⟨B, cb, rfl, (own_row HK.out).bools, HB.out⟩

theorem setB_same (zs : List Int) (k : Nat) (v : Bool) (hk : k / 8 < zs.length) (h : bitB zs k = v) : setB zs k v = zs := by
  unfold bitB at h
  unfold setB sb
  rw [if_pos h]
  apply List.ext_getElem?
  intro j
  rw [List.getElem?_set]
  by_cases e : k / 8 = j
  · subst e; simp [hk]
  · simp [e]

set_option maxHeartbeats 1000000 in
theorem refset_any (A : Option Addr) (n c : Nat) (zs : List Int) (i : Int) (v : Bool) (w : World) (hr : Row .u8 w w.heap.size A n zs) (hx : Bytes8 zs) (h0 : -9223372036854775808 ≤ i) (h1 : i ≤ 9223372036854775807) (hn : n ≤ 100000) :
    Calls Try.prog 17 #[.slice A n c, .int .i64 i, .bool v] w fun e w' => ∃ B d, e = .returned (.slice B n d) ∧ Row .u8 w' w'.heap.size B n (setI zs n i v) ∧ Below w.heap.size w w' := by
  have HR := Lib.hid hr
  have HX := Lib.hid hx
  have HN := Lib.hid hr.1
  have HO := Lib.hid (own_none w w.heap.size 5)
  have HB0 := Lib.hid (Below.refl w.heap.size w)
  clear hr hx
  by_cases h : 0 ≤ i ∧ i / 8 < n
  · obtain ⟨k, rfl⟩ := Int.eq_ofNat_of_zero_le h.1
    have hk : k / 8 < n := by omega
    have hi3 : (k : Int) / 8 < (n : Int) := h.2
    have hi0 : 0 ≤ (k : Int) / 8 := by omega
    have hi2 : ((k : Int) / 8).toNat = k / 8 := by omega
    clear h
    by_cases hv : bitB zs k = v
    · have HV := Lib.hid hv
      have HT : Hid (bitI zs k = v) := by rw [bitI_nat]; exact hv
      clear hv
      go_enter Try.func17, Try.ntmps17
      go_wp2_with (first
        | (at_builtin
           refine wpList_append_row _ (o := ⟨some 9, _, _, _, _, _⟩) rfl (.const (.slice none 0 0)) (.tmp 8) 22 rfl w.heap.size 5 (.int .u8 0) 1 Try.underlying22 info5 rfl (.slice none 0 0) 0 [] rfl HO.out w.heap.size A n c _ rfl HR.out.v (one_cells _ _) (by omega) (by omega) (Nat.le_refl _) ?_
           intro v1 w1 hown1 hg1 hat1
           have HB1 := Lib.hid (below_append HB0.out HO.out hg1 (Nat.le_refl _))
           rw [Nat.zero_add, List.nil_append] at hown1
           have HR1 := Lib.hid ((HR.out.below HB1.out).more HB1.out.size)
           obtain ⟨B1, c1, rfl⟩ := own_slice hown1
           have HO1 := Lib.hid hown1
           clear hown1 hg1 hat1)
        | (go_at_call 34
           refine (bit_any A n c zs (k : Int) _ HR1.out HX.out (by omega) (by omega) hn).mono ?_
           rintro e w2 ⟨rfl, d1, rfl⟩
           rw [HT.out]))
      go_ret
      refine ⟨_, _, rfl, ?_, below_drewN HB1.out d1⟩
      rw [setI_in _ _ _ _ hk, setB_same _ _ _ (by rw [HN.out]; exact hk) HV.out]
      exact (own_row HO1.out).ints
    · have HV := Lib.hid hv
      have hb0 := HX.out.at_ (k / 8)
      rcases v with _ | _
      · have hvt : bitB zs k = true := by simpa using hv
        have HA := Lib.hid (sub_bit _ hb0.1 hb0.2 (k % 8) (by omega) hvt)
        have HT : Hid (bitI zs k = true) := by rw [bitI_nat]; exact hvt
        clear hb0 hv hvt
        go_enter Try.func17, Try.ntmps17
        go_wp2_with (first
          | (at_builtin
             refine wpList_append_row _ (o := ⟨some 9, _, _, _, _, _⟩) rfl (.const (.slice none 0 0)) (.tmp 8) 22 rfl w.heap.size 5 (.int .u8 0) 1 Try.underlying22 info5 rfl (.slice none 0 0) 0 [] rfl HO.out w.heap.size A n c _ rfl HR.out.v (one_cells _ _) (by omega) (by omega) (Nat.le_refl _) ?_
             intro v1 w1 hown1 hg1 hat1
             have HB1 := Lib.hid (below_append HB0.out HO.out hg1 (Nat.le_refl _))
             rw [Nat.zero_add, List.nil_append] at hown1
             have HR1 := Lib.hid ((HR.out.below HB1.out).more HB1.out.size)
             obtain ⟨g, cap, rfl, hg, hrow, hfz, hset⟩ := own_open hown1 (by omega)
             have hc1 : w1.cell? ⟨g, k / 8, none⟩ = some (.int .u8 (zs[k / 8]?.getD 0)) := by
               obtain ⟨b, off, e, _, hcell⟩ := hrow.ints.2 (by omega)
               injection e with e
               injection e with e1 e2
               subst e1; subst e2
               have := hcell (k / 8) hk
               rwa [Nat.zero_add] at this
             have hf1 := hfz (k / 8)
             have HSET := Lib.hid (hset (k / 8))
             have HG := Lib.hid hg
             clear hown1 hg1 hat1 hrow hfz hset hg)
          | (go_at_call 34
             refine (bit_any A n c zs (k : Int) _ HR1.out HX.out (by omega) (by omega) hn).mono ?_
             rintro e w2 ⟨rfl, d1, rfl⟩
             rw [HT.out]))
        have e1 : (k : Int).tdiv 8 = (k : Int) / 8 := Int.tdiv_eq_ediv_of_nonneg (by omega)
        have e2 : (k : Int).tmod 8 = (k : Int) % 8 := Int.tmod_eq_emod_of_nonneg (by omega)
        have e3 : IntKind.i64.wrap ((k : Int) / 8) = (k : Int) / 8 := IntWalk.i64_in _ (by omega)
        go_region_with (first
          | (go_at_call 35; refine (power_mod k _).mono ?_; rintro e w2 ⟨rfl, rfl⟩))
        all_goals (
          go_wp2
          go_ret
          refine ⟨_, _, rfl, ?_, (((below_drewN HB1.out d1).setCell HG.out _).drew)⟩
          have h := own_row (HSET.out (.int .u8 (sb (zs[k / 8]?.getD 0) (k % 8) false)))
          rw [← List.map_set] at h
          rw [setI_in _ _ _ _ hk]
          unfold setB
          rw [← HA.out] at h ⊢
          exact h.ints)
      · have hvt : bitB zs k = false := by simpa using hv
        have HA := Lib.hid (add_bit _ hb0.1 hb0.2 (k % 8) (by omega) hvt)
        have HT : Hid (bitI zs k = false) := by rw [bitI_nat]; exact hvt
        clear hb0 hv hvt
        go_enter Try.func17, Try.ntmps17
        go_wp2_with (first
          | (at_builtin
             refine wpList_append_row _ (o := ⟨some 9, _, _, _, _, _⟩) rfl (.const (.slice none 0 0)) (.tmp 8) 22 rfl w.heap.size 5 (.int .u8 0) 1 Try.underlying22 info5 rfl (.slice none 0 0) 0 [] rfl HO.out w.heap.size A n c _ rfl HR.out.v (one_cells _ _) (by omega) (by omega) (Nat.le_refl _) ?_
             intro v1 w1 hown1 hg1 hat1
             have HB1 := Lib.hid (below_append HB0.out HO.out hg1 (Nat.le_refl _))
             rw [Nat.zero_add, List.nil_append] at hown1
             have HR1 := Lib.hid ((HR.out.below HB1.out).more HB1.out.size)
             obtain ⟨g, cap, rfl, hg, hrow, hfz, hset⟩ := own_open hown1 (by omega)
             have hc1 : w1.cell? ⟨g, k / 8, none⟩ = some (.int .u8 (zs[k / 8]?.getD 0)) := by
               obtain ⟨b, off, e, _, hcell⟩ := hrow.ints.2 (by omega)
               injection e with e
               injection e with e1 e2
               subst e1; subst e2
               have := hcell (k / 8) hk
               rwa [Nat.zero_add] at this
             have hf1 := hfz (k / 8)
             have HSET := Lib.hid (hset (k / 8))
             have HG := Lib.hid hg
             clear hown1 hg1 hat1 hrow hfz hset hg)
          | (go_at_call 34
             refine (bit_any A n c zs (k : Int) _ HR1.out HX.out (by omega) (by omega) hn).mono ?_
             rintro e w2 ⟨rfl, d1, rfl⟩
             rw [HT.out]))
        have e1 : (k : Int).tdiv 8 = (k : Int) / 8 := Int.tdiv_eq_ediv_of_nonneg (by omega)
        have e2 : (k : Int).tmod 8 = (k : Int) % 8 := Int.tmod_eq_emod_of_nonneg (by omega)
        have e3 : IntKind.i64.wrap ((k : Int) / 8) = (k : Int) / 8 := IntWalk.i64_in _ (by omega)
        go_region_with (first
          | (go_at_call 35; refine (power_mod k _).mono ?_; rintro e w2 ⟨rfl, rfl⟩))
        all_goals (
          go_wp2
          go_ret
          refine ⟨_, _, rfl, ?_, (((below_drewN HB1.out d1).setCell HG.out _).drew)⟩
          have h := own_row (HSET.out (.int .u8 (sb (zs[k / 8]?.getD 0) (k % 8) true)))
          rw [← List.map_set] at h
          rw [setI_in _ _ _ _ hk]
          unfold setB
          rw [← HA.out] at h ⊢
          exact h.ints)
  · have H := Lib.hid h
    by_cases hneg : i < 0
    · clear h
      go_enter Try.func17, Try.ntmps17
      go_wp2_with (first
        | (at_builtin
           refine wpList_append_row _ (o := ⟨some 9, _, _, _, _, _⟩) rfl (.const (.slice none 0 0)) (.tmp 8) 22 rfl w.heap.size 5 (.int .u8 0) 1 Try.underlying22 info5 rfl (.slice none 0 0) 0 [] rfl HO.out w.heap.size A n c _ rfl HR.out.v (one_cells _ _) (by omega) (by omega) (Nat.le_refl _) ?_
           intro v1 w1 hown1 hg1 hat1
           have HB1 := Lib.hid (below_append HB0.out HO.out hg1 (Nat.le_refl _))
           rw [Nat.zero_add, List.nil_append] at hown1
           have HR1 := Lib.hid ((HR.out.below HB1.out).more HB1.out.size)
           obtain ⟨B1, c1, rfl⟩ := own_slice hown1
           have HO1 := Lib.hid hown1
           clear hown1 hg1 hat1))
      go_ret
      refine ⟨_, _, rfl, ?_, HB1.out⟩
      rw [setI_out _ _ _ _ H.out]
      exact (own_row HO1.out).ints
    · have hge : (n : Int) ≤ i / 8 := by omega
      clear h
      go_enter Try.func17, Try.ntmps17
      go_wp2_with (first
        | (at_builtin
           refine wpList_append_row _ (o := ⟨some 9, _, _, _, _, _⟩) rfl (.const (.slice none 0 0)) (.tmp 8) 22 rfl w.heap.size 5 (.int .u8 0) 1 Try.underlying22 info5 rfl (.slice none 0 0) 0 [] rfl HO.out w.heap.size A n c _ rfl HR.out.v (one_cells _ _) (by omega) (by omega) (Nat.le_refl _) ?_
           intro v1 w1 hown1 hg1 hat1
           have HB1 := Lib.hid (below_append HB0.out HO.out hg1 (Nat.le_refl _))
           rw [Nat.zero_add, List.nil_append] at hown1
           have HR1 := Lib.hid ((HR.out.below HB1.out).more HB1.out.size)
           obtain ⟨B1, c1, rfl⟩ := own_slice hown1
           have HO1 := Lib.hid hown1
           clear hown1 hg1 hat1))
      go_ret
      refine ⟨_, ⟨_, rfl⟩, ?_, HB1.out⟩
      rw [setI_out _ _ _ _ H.out]
      exact (own_row HO1.out).ints

end Go.Proofs.Ytebpilfogdenjaa

/- busbarlaw7.Objects: objects by numbers. -/
import Derived.Test.YtoljpdamalcjeaaLobj
import Derived.Test.YtoljpdamalcjeaaAskSame
namespace Go.Proofs.Ytoljpdamalcjeaa
open Go.ChangeShapes Go.WideShapes Go.ChangeAt Go.RowKit
set_option linter.unusedVariables false
set_option linter.unusedSimpArgs false

theorem infoB8 : (Try.prog.info? 5).map (fun i => (i.zero, i.size, i.bytes)) = some (some (.int .u8 0), 1, 1) := by kernel_rfl

/-- A list of objects laid anew. -/
theorem own2_new (w : World) (os : List Ob) (T : TypeId) (n : Nat) (hn : os.length = n) (hm : n ≤ 100000) : (w.alloc (.cells (obs os).toArray T)).ownsRow w.heap.size T 2 (.slice (some ⟨w.heap.size, 0, none⟩) n n) n (obs os) := by
  refine ⟨by rw [obs_length]; omega, .inr ⟨w.heap.size, n, (obs os).toArray, rfl, Nat.le_refl _, heap_alloc_new w _, Nat.le_refl _, by unfold maxLen; omega, by simp [obs_length]; omega, ?_⟩⟩
  exact List.take_of_length_le (by rw [obs_length]; omega)

set_option maxRecDepth 100000 in
set_option maxHeartbeats 2000000 in
theorem lobjects_any (A : Option Addr) (n c : Nat) (ks : List Int) (w : World) (hr : Row .i64 w w.heap.size A n ks) (hw : ∀ k ∈ ks, -9223372036854775808 ≤ k ∧ k ≤ 9223372036854775807) (hn : n ≤ 9223372036854775807) :
    Calls Try.prog 43 #[.slice A n c] w fun e w' => ∃ B m d os, e = .returned (.slice B m d) ∧ goodL os ∧ w'.ownsRow w.heap.size 98 2 (.slice B m d) m (obs os) ∧ Below w.heap.size w w' := by
  have HR := Lib.hid hr
  have HW := Lib.hid hw
  clear hr hw
  go_enter Try.func43, Try.ntmps43
  go_wp2
  go_loopw [3, 4, 5] (fun l id i wr => ∃ (k : Nat) (B : Option Addr) (d : Nat) (x : Int) (os : List Ob), k ≤ n ∧ k ≤ 40 ∧ i = .int .i64 (k : Int) ∧ l = .slice B (3 + k) d ∧ id = .int .i64 x ∧ Hid (2 ≤ x ∧ x ≤ 255) ∧ Hid ((os.getD (2 + k) ob0).1 = x) ∧ Hid (os.length = 3 + k) ∧ Hid (goodL os) ∧ Hid (wr.ownsRow w.heap.size 98 2 (.slice B (3 + k) d) (3 + k) (obs os)) ∧ Hid (Below w.heap.size w wr)) (fun _ _ i _ => n - (intOf i).toNat)
  case atStart =>
    refine ⟨0, _, _, 2, [(0, ⟨#[98, 117, 115, 98, 97, 114]⟩), (1, ⟨#[]⟩), (2, ⟨#[49]⟩)], by omega, by omega, rfl, rfl, rfl, Lib.hid (by omega), Lib.hid rfl, Lib.hid rfl, Lib.hid ?_, Lib.hid ?_, Lib.hid ((Below.refl _ _).alloc (Nat.le_refl _) _)⟩
    · refine ⟨by decide, by decide, ?_, rfl, rfl, rfl, ?_, ?_⟩
      · intro k hk
        have : k = 0 ∨ k = 1 := by simp at hk; omega
        rcases this with rfl | rfl <;> decide
      · intro o ho
        simp at ho
        rcases ho with rfl | rfl | rfl <;> exact ⟨by simp, by simp⟩
      · intro o ho
        simp at ho
        rcases ho with rfl | rfl | rfl <;> decide
    · exact own2_new w [(0, ⟨#[98, 117, 115, 98, 97, 114]⟩), (1, ⟨#[]⟩), (2, ⟨#[49]⟩)] 98 3 rfl (by omega)
  case round =>
    obtain ⟨k, B, d, x, os, hk, hk40, rfl, rfl, rfl, HX, HXE, HLE, HG, HO, HB⟩ := hrel
    by_cases hlt : k < n ∧ k < 40
    · have hi : (k : Int) < (n : Int) := by omega
      have hi4 : (k : Int) < 40 := by omega
      obtain ⟨bA, offA, hAA, hbA, hcA⟩ := ((HR.out.below HB.out).more HB.out.size).2 (by omega)
      subst hAA
      have hkk := hcA k (by omega)
      obtain ⟨z, hz⟩ : ∃ z, ks.getD k 0 = z := ⟨_, rfl⟩
      rw [hz] at hkk
      have hzw := HW.out z (by rw [← hz, List.getD_eq_getElem?_getD, List.getElem?_eq_getElem (by rw [HR.out.1]; omega)]; exact List.getElem_mem _)
      obtain ⟨q, hq⟩ : ∃ q, z % 12 = q := ⟨_, rfl⟩
      have q0 : 0 ≤ q := by omega
      have q1 : q < 12 := by omega
      have x2 := HX.out.1
      have x5 := HX.out.2
      obtain ⟨t, ht⟩ : ∃ t : Nat, (z.tdiv 12) % 245 = (t : Int) := ⟨((z.tdiv 12) % 245).toNat, by omega⟩
      have ht2 : t < 245 := by omega
      have C1 := Lib.hid (fun W => within_any z 12 W hzw.1 hzw.2 (by omega) (by omega))
      rw [hq] at C1
      have C2 := Lib.hid (fun W => digit_any z 12 245 W hzw.1 hzw.2 (by omega) (by omega) (by omega) (by omega))
      rw [ht] at C2
      clear ht hq hcA hz hzw
      by_cases hbr : 255 < x + 1 + q
      · have h0 : 0 < n := by omega
        obtain ⟨bZ, offZ, hAZ, hbZ, hcZ⟩ := ((HR.out.below HB.out).more HB.out.size).2 h0
        cases hAZ
        have hk0 := hcZ 0 h0
        rw [Nat.add_zero] at hk0
        obtain ⟨y, hy⟩ : ∃ y, ks.getD 0 0 = y := ⟨_, rfl⟩
        rw [hy] at hk0
        have hyw := HW.out y (by rw [← hy, List.getD_eq_getElem?_getD, List.getElem?_eq_getElem (by rw [HR.out.1]; exact h0)]; exact List.getElem_mem _)
        obtain ⟨t3, ht3⟩ : ∃ t3 : Nat, (y.tdiv 2940) % 245 = (t3 : Int) := ⟨((y.tdiv 2940) % 245).toNat, by omega⟩
        have ht4 : t3 < 245 := by omega
        have C3 := Lib.hid (fun W => digit_any y 2940 245 W hyw.1 hyw.2 (by omega) (by omega) (by omega) (by omega))
        rw [ht3] at C3
        have hmk := make_bytes t3 (by omega)
        have h1n : (0 : Int) < (n : Int) := by omega
        clear ht3 hcZ hyw hy
        have hal := (Below.refl wr.heap.size wr).alloc (Nat.le_refl _) (.cells ((List.replicate t3 (0 : Int)).map (Value.int .u8)).toArray 5)
        obtain ⟨gO, cO, hvO, hgO, hltO, hcO, hfO, hsO⟩ := own2_open (own2_keep HO.out hal) (by omega)
        injection hvO with e1 e2 e3
        subst e1 e3
        have hc3 := hcO 3 (by omega)
        rw [show (3 : Nat) = 2 * 1 + 1 from rfl, obs_val os 1 (by have := HG.out.l3; omega), show 2 * 1 + 1 = (3 : Nat) from rfl] at hc3
        have hf3 := hfO 3
        have hwz : Whole .u8 (wr.alloc (.cells ((List.replicate t3 (0 : Int)).map (Value.int .u8)).toArray 5)) wr.heap.size 5 (List.replicate t3 0) := heap_alloc_new wr _
        have hwr := hwz.row
        rw [List.length_replicate] at hwr
        have hcv := conv_row _ t3 t3 _ _ hwr
        have hS : (strOfNums (List.replicate t3 (0 : Int))).size ≤ 244 := by rw [size_strOfNums, List.length_replicate]; omega
        generalize strOfNums (List.replicate t3 (0 : Int)) = S at hcv hS
        have HSO := Lib.hid (hsO 3 (.string S))
        have HS := Lib.hid hS
        have HHO := Lib.hid hgO
        have HBA := Lib.hid (HB.out.alloc HB.out.size (.cells ((List.replicate t3 (0 : Int)).map (Value.int .u8)).toArray 5))
        rw [List.map_replicate, List.toArray_replicate] at hcv hc3 hf3 HSO HBA
        clear hcO hsO hgO hltO hfO hwz hwr hS hal
        go_wp2_with (first
          | (go_at_call 13; refine (C1.out _).mono ?_; rintro e w' ⟨rfl, rfl⟩)
          | (go_at_call 55; refine (C3.out _).mono ?_; rintro e w' ⟨rfl, rfl⟩))
        go_ret
        refine ⟨_, _, d, os.set 1 (1, S), rfl, HG.out.set1 S HS.out, ?_, HBA.out.setCell HHO.out _⟩
        have h := HSO.out
        rw [show (3 : Nat) = 2 * 1 + 1 from rfl, obs_set, HG.out.z1] at h
        exact h
      · have hmk := make_bytes t (by omega)
        go_wp2_with (first
          | (go_at_call 13; refine (C1.out _).mono ?_; rintro e w' ⟨rfl, rfl⟩)
          | (go_at_call 55; refine (C2.out _).mono ?_; rintro e w' ⟨rfl, rfl⟩))
        obtain ⟨wo, rfl⟩ : ∃ y : World, y = wr := ⟨_, rfl⟩
        have hw0 : Whole .u8 (wo.alloc (.cells (Array.replicate t (Value.int .u8 0)) 5)) wo.heap.size 5 (List.replicate t 0) := by
          have h : Whole .u8 (wo.alloc (.cells ((List.replicate t (0 : Int)).map (Value.int .u8)).toArray 5)) wo.heap.size 5 (List.replicate t 0) := heap_alloc_new wo _
          rw [List.map_replicate, List.toArray_replicate] at h
          exact h
        have HW0 := Lib.hid hw0
        clear hw0
        go_loopw [7] (fun i wi => ∃ (j : Nat) (zs : List Int), j ≤ t ∧ i = .int .i64 (j : Int) ∧ Hid (zs.length = t) ∧ Hid (Whole .u8 wi wo.heap.size 5 zs) ∧ Hid (Below wo.heap.size wo wi)) (fun i _ => t - (intOf i).toNat)
        case atStart => exact ⟨0, List.replicate t 0, by omega, rfl, Lib.hid (List.length_replicate ..), HW0, Lib.hid ((Below.refl _ _).alloc (Nat.le_refl _) _)⟩
        case round =>
          obtain ⟨j, zs, hj, rfl, HZL, HZW, HZB⟩ := hrel
          by_cases hjt : j < t
          · have hjt2 : (j : Int) < (t : Int) := by omega
            have hjc := HZW.out.cell j (by rw [HZL.out]; exact hjt)
            have hjf := HZW.out.frozen j
            obtain ⟨r, hr⟩ : ∃ r, (j : Int).tmod 26 = r := ⟨_, rfl⟩
            have hr0 : 0 ≤ r := by rw [← hr, Int.tmod_eq_emod_of_nonneg (by omega)]; omega
            have hr1 : r < 26 := by rw [← hr, Int.tmod_eq_emod_of_nonneg (by omega)]; omega
            go_wp2
            go_roundw
            case rel => exact ⟨j + 1, zs.set j _, by omega, by go_num, Lib.hid (by rw [List.length_set]; exact HZL.out), Lib.hid (HZW.out.set_ j _), Lib.hid (HZB.out.setCell (Nat.le_refl _) _)⟩
            case measure => simp [intOf]; omega
          · obtain rfl : t = j := by omega
            have hzr := HZW.out.row
            rw [HZL.out] at hzr
            have hcv := conv_row _ t t _ _ hzr
            have hS : (strOfNums zs).size ≤ 244 := by rw [size_strOfNums, HZL.out]; omega
            generalize strOfNums zs = S at hcv hS
            have HS := Lib.hid hS
            have hal := HZB.out.alloc HZB.out.size (.cells #[.int .i64 (x + 1 + q), .string S] 98)
            have HO3 := Lib.hid (own2_keep HO.out hal)
            have HB3 := Lib.hid (HB.out.trans (hal.mono HB.out.size))
            have HL3 := Lib.hid (ol_of_own (own2_new wr [(x + 1 + q, S)] 98 1 rfl (by omega)))
            clear hzr hS hal
            go_wp2_with (at_builtin
                         refine wpList_append_obs _ (o := ⟨some 57, _, _, _, _, _⟩) rfl (.tmp 51) (.tmp 56) rfl w.heap.size (.slice B (3 + k) d) (3 + k) os rfl HO3.out _ (some ⟨wr.heap.size, 0, none⟩) 1 1 [(x + 1 + q, S)] rfl HL3.out (by omega) HB3.out.size ?_
                         intro v2 w2 hown hg
                         obtain ⟨B2, d2, rfl⟩ := own2_slice hown
                         have HO2 := Lib.hid hown
                         have HB2 := Lib.hid (below_append2 HB3.out HO3.out hg HB3.out.size)
                         clear hown hg)
            go_roundw
            case rel =>
              refine ⟨k + 1, B2, d2, x + 1 + q, os ++ [(x + 1 + q, S)], by omega, by omega, by go_num, rfl, rfl, Lib.hid (by omega), Lib.hid ?_, Lib.hid ?_, Lib.hid ?_, HO2, HB2⟩
              · rw [show 2 + (k + 1) = os.length by rw [HLE.out]; omega]
                simp [List.getD_eq_getElem?_getD]
              · rw [List.length_append, HLE.out]; rfl
              · refine HG.out.snoc _ _ (by rw [HLE.out]; omega) ?_ (by omega) HS.out (by omega)
                rw [show os.length - 1 = 2 + k by rw [HLE.out]; omega, HXE.out]; omega
            case measure => simp [intOf]; omega
    · have hlt2 : ¬ ((k : Int) < (n : Int) ∧ (k : Int) < 40) := by omega
      rcases Nat.eq_zero_or_pos n with h0 | h0
      · subst h0
        obtain rfl : k = 0 := by omega
        go_wp2
        go_ret
        exact ⟨B, 3, d, os, rfl, HG.out, HO.out, HB.out⟩
      · by_cases hkn : k = n
        · obtain rfl : n = k := by omega
          obtain ⟨bZ, offZ, hAZ, hbZ, hcZ⟩ := ((HR.out.below HB.out).more HB.out.size).2 h0
          cases hAZ
          have hk0 := hcZ 0 h0
          rw [Nat.add_zero] at hk0
          obtain ⟨y, hy⟩ : ∃ y, ks.getD 0 0 = y := ⟨_, rfl⟩
          rw [hy] at hk0
          have hyw := HW.out y (by rw [← hy, List.getD_eq_getElem?_getD, List.getElem?_eq_getElem (by rw [HR.out.1]; exact h0)]; exact List.getElem_mem _)
          obtain ⟨t3, ht3⟩ : ∃ t3 : Nat, (y.tdiv 2940) % 245 = (t3 : Int) := ⟨((y.tdiv 2940) % 245).toNat, by omega⟩
          have ht4 : t3 < 245 := by omega
          have C3 := Lib.hid (fun W => digit_any y 2940 245 W hyw.1 hyw.2 (by omega) (by omega) (by omega) (by omega))
          rw [ht3] at C3
          have hmk := make_bytes t3 (by omega)
          have h1n : (0 : Int) < (n : Int) := by omega
          clear ht3 hcZ hyw hy
          have hal := (Below.refl wr.heap.size wr).alloc (Nat.le_refl _) (.cells ((List.replicate t3 (0 : Int)).map (Value.int .u8)).toArray 5)
          obtain ⟨gO, cO, hvO, hgO, hltO, hcO, hfO, hsO⟩ := own2_open (own2_keep HO.out hal) (by omega)
          injection hvO with e1 e2 e3
          subst e1 e3
          have hc3 := hcO 3 (by omega)
          rw [show (3 : Nat) = 2 * 1 + 1 from rfl, obs_val os 1 (by have := HG.out.l3; omega), show 2 * 1 + 1 = (3 : Nat) from rfl] at hc3
          have hf3 := hfO 3
          have hwz : Whole .u8 (wr.alloc (.cells ((List.replicate t3 (0 : Int)).map (Value.int .u8)).toArray 5)) wr.heap.size 5 (List.replicate t3 0) := heap_alloc_new wr _
          have hwr := hwz.row
          rw [List.length_replicate] at hwr
          have hcv := conv_row _ t3 t3 _ _ hwr
          have hS : (strOfNums (List.replicate t3 (0 : Int))).size ≤ 244 := by rw [size_strOfNums, List.length_replicate]; omega
          generalize strOfNums (List.replicate t3 (0 : Int)) = S at hcv hS
          have HSO := Lib.hid (hsO 3 (.string S))
          have HS := Lib.hid hS
          have HHO := Lib.hid hgO
          have HBA := Lib.hid (HB.out.alloc HB.out.size (.cells ((List.replicate t3 (0 : Int)).map (Value.int .u8)).toArray 5))
          rw [List.map_replicate, List.toArray_replicate] at hcv hc3 hf3 HSO HBA
          clear hcO hsO hgO hltO hfO hwz hwr hS hal
          go_wp2_with (go_at_call 55; refine (C3.out _).mono ?_; rintro e w' ⟨rfl, rfl⟩)
          go_ret
          refine ⟨_, _, d, os.set 1 (1, S), rfl, HG.out.set1 S HS.out, ?_, HBA.out.setCell HHO.out _⟩
          have h := HSO.out
          rw [show (3 : Nat) = 2 * 1 + 1 from rfl, obs_set, HG.out.z1] at h
          exact h
        · obtain rfl : k = 40 := by omega
          have hi : ((40 : Nat) : Int) < (n : Int) := by omega
          obtain ⟨bZ, offZ, hAZ, hbZ, hcZ⟩ := ((HR.out.below HB.out).more HB.out.size).2 h0
          cases hAZ
          have hk0 := hcZ 0 h0
          rw [Nat.add_zero] at hk0
          obtain ⟨y, hy⟩ : ∃ y, ks.getD 0 0 = y := ⟨_, rfl⟩
          rw [hy] at hk0
          have hyw := HW.out y (by rw [← hy, List.getD_eq_getElem?_getD, List.getElem?_eq_getElem (by rw [HR.out.1]; exact h0)]; exact List.getElem_mem _)
          obtain ⟨t3, ht3⟩ : ∃ t3 : Nat, (y.tdiv 2940) % 245 = (t3 : Int) := ⟨((y.tdiv 2940) % 245).toNat, by omega⟩
          have ht4 : t3 < 245 := by omega
          have C3 := Lib.hid (fun W => digit_any y 2940 245 W hyw.1 hyw.2 (by omega) (by omega) (by omega) (by omega))
          rw [ht3] at C3
          have hmk := make_bytes t3 (by omega)
          have h1n : (0 : Int) < (n : Int) := by omega
          clear ht3 hcZ hyw hy
          have hal := (Below.refl wr.heap.size wr).alloc (Nat.le_refl _) (.cells ((List.replicate t3 (0 : Int)).map (Value.int .u8)).toArray 5)
          obtain ⟨gO, cO, hvO, hgO, hltO, hcO, hfO, hsO⟩ := own2_open (own2_keep HO.out hal) (by omega)
          injection hvO with e1 e2 e3
          subst e1 e3
          have hc3 := hcO 3 (by omega)
          rw [show (3 : Nat) = 2 * 1 + 1 from rfl, obs_val os 1 (by have := HG.out.l3; omega), show 2 * 1 + 1 = (3 : Nat) from rfl] at hc3
          have hf3 := hfO 3
          have hwz : Whole .u8 (wr.alloc (.cells ((List.replicate t3 (0 : Int)).map (Value.int .u8)).toArray 5)) wr.heap.size 5 (List.replicate t3 0) := heap_alloc_new wr _
          have hwr := hwz.row
          rw [List.length_replicate] at hwr
          have hcv := conv_row _ t3 t3 _ _ hwr
          have hS : (strOfNums (List.replicate t3 (0 : Int))).size ≤ 244 := by rw [size_strOfNums, List.length_replicate]; omega
          generalize strOfNums (List.replicate t3 (0 : Int)) = S at hcv hS
          have HSO := Lib.hid (hsO 3 (.string S))
          have HS := Lib.hid hS
          have HHO := Lib.hid hgO
          have HBA := Lib.hid (HB.out.alloc HB.out.size (.cells ((List.replicate t3 (0 : Int)).map (Value.int .u8)).toArray 5))
          rw [List.map_replicate, List.toArray_replicate] at hcv hc3 hf3 HSO HBA
          clear hcO hsO hgO hltO hfO hwz hwr hS hal
          go_wp2_with (go_at_call 55; refine (C3.out _).mono ?_; rintro e w' ⟨rfl, rfl⟩)
          go_ret
          refine ⟨_, _, d, os.set 1 (1, S), rfl, HG.out.set1 S HS.out, ?_, HBA.out.setCell HHO.out _⟩
          have h := HSO.out
          rw [show (3 : Nat) = 2 * 1 + 1 from rfl, obs_set, HG.out.z1] at h
          exact h

end Go.Proofs.Ytoljpdamalcjeaa

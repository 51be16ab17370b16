/- The document's lists of spans: Add. No statement is proved here. -/
import Derived.Test.YtlnmdepaobocnaaSpanB
import Derived.Test.YtlnmdepaobocnaaSpan2
import Derived.Test.YtlnmdepaobocnaaOff
namespace Go.Proofs.Ytlnmdepaobocnaa
open Go.ChangeShapes Go.WideShapes Go.ChangeAt Go.RowKit
set_option linter.unusedVariables false
set_option linter.unusedSimpArgs false

theorem drop_at (l : List Sp) (k : Nat) (h : k < l.length) (x : Sp) (hx : l.getD k sp0 = x) : l.drop k = x :: l.drop (k + 1) := by
  rw [List.drop_eq_getElem_cons h]
  rw [List.getD_eq_getElem?_getD, List.getElem?_eq_getElem h] at hx
  rw [show l[k] = x from hx]

theorem two_sets {w X : World} {g : Nat} {t f u f1 u1 : Int} {T : TypeId} (hb : Below g w X) (h : WholeV X g T [.int .i64 t, .int .i64 f, .int .i64 u]) :
    WholeV ((X.setCell ⟨g, 1, none⟩ (.int .i64 f1)).setCell ⟨g, 2, none⟩ (.int .i64 u1)) g T [.int .i64 t, .int .i64 f1, .int .i64 u1] ∧ Below g w ((X.setCell ⟨g, 1, none⟩ (.int .i64 f1)).setCell ⟨g, 2, none⟩ (.int .i64 u1)) ∧ Off (fun k => k = g) X ((X.setCell ⟨g, 1, none⟩ (.int .i64 f1)).setCell ⟨g, 2, none⟩ (.int .i64 u1)) :=
  ⟨(h.set 1 (.int .i64 f1)).set 2 (.int .i64 u1), (hb.setCell (p := ⟨g, 1, none⟩) (Nat.le_refl _) _).setCell (p := ⟨g, 2, none⟩) (Nat.le_refl _) _, ((Off.refl (fun k => k = g) X).setCell (p := ⟨g, 1, none⟩) (.inl rfl) _).setCell (p := ⟨g, 2, none⟩) (.inl rfl) _⟩
theorem SO.sets {w X : World} {g b n : Nat} {v : Value} {l : List Sp} (h : SO w b v n l) (ho : Off (fun k => k = g) w X) (hg : g < b) : SO X b v n l := by
  refine ⟨h.1, ?_⟩
  rcases h.2 with h0 | ⟨k, cap, cur, hv, hk, hh, rest⟩
  · exact .inl h0
  · refine .inr ⟨k, cap, cur, hv, hk, (ho.block k ?_ (by show ¬ k = g; omega)).trans hh, rest⟩
    rcases Nat.lt_or_ge k w.heap.size with hlt | hge
    · exact hlt
    · rw [Array.getElem?_eq_none hge] at hh; cases hh

set_option maxRecDepth 100000 in
set_option maxHeartbeats 8000000 in
theorem radd_any (A : Option Addr) (n c : Nat) (l : List Sp) (t f u : Int) (w : World) (hl : SL w A n l) (hn : n ≤ 100000) :
    Calls Try.prog 23 #[.slice A n c, .agg #[.int .i64 t, .int .i64 f, .int .i64 u]] w fun e w' => (∃ B m d, e = .returned (.slice B m d) ∧ SO w' w.heap.size (.slice B m d) m (addS l (t, f, u)) ∧ m ≤ n + 1) ∧ Below w.heap.size w w' := by
  obtain ⟨W, hW⟩ : ∃ W, w.alloc (.cells #[.int .i64 t, .int .i64 f, .int .i64 u] 23) = W := ⟨_, rfl⟩
  have hk : Below w.heap.size w W := by rw [← hW]; exact (Below.refl _ _).alloc (Nat.le_refl _) _
  have h0 : WholeV W w.heap.size 23 [.int .i64 t, .int .i64 f, .int .i64 u] := by rw [← hW]; exact heap_alloc_new w _
  have HK := Lib.hid hk
  have HL := Lib.hid hl
  have HS := Lib.hid h0.lt
  have HW0 := Lib.hid h0
  have HN := Lib.hid hl.len
  clear hk h0 hl
  go_enter Try.func23, Try.ntmps23
  go_wp2
  go_loopw [5, 6, 7] (fun a b i wr => ∃ (k n1 n2 : Nat) (A1 : Option Addr) (d1 : Nat) (A2 : Option Addr) (d2 : Nat) (f' u' : Int) (xs ys : List Sp), k ≤ n ∧ n1 + n2 ≤ k ∧ i = .int .i64 (k : Int) ∧ a = .slice A1 n1 d1 ∧ b = .slice A2 n2 d2 ∧ Hid (SO wr W.heap.size (.slice A1 n1 d1) n1 xs) ∧ Hid (SO wr W.heap.size (.slice A2 n2 d2) n2 ys) ∧ Hid (Apart (.slice A1 n1 d1) (.slice A2 n2 d2)) ∧ Hid (addLoop (l.drop k) xs ys (t, f', u') = addS l (t, f, u)) ∧ Hid (WholeV wr w.heap.size 23 [.int .i64 t, .int .i64 f', .int .i64 u']) ∧ Hid (Below w.heap.size w wr) ∧ Hid (W.heap.size ≤ wr.heap.size)) (fun _ _ i _ => n - (intOf i).toNat)
  case atStart => exact ⟨0, 0, 0, none, 0, none, 0, f, u, [], [], by omega, by omega, rfl, rfl, rfl, Lib.hid (SO.nil _ _), Lib.hid (SO.nil _ _), Lib.hid (apart_nil _), Lib.hid rfl, HW0, HK, Lib.hid (Nat.le_refl _)⟩
  case round =>
    obtain ⟨k, n1, n2, A1, d1, A2, d2, f', u', xs, ys, hkn, hnk, rfl, rfl, rfl, HO1, HO2, HAP, HI, HW, HB, HWS⟩ := hrel
    have z0 : wr.cell? ⟨w.heap.size, 0, none⟩ = some (.int .i64 t) := HW.out.cell 0
    have z1 : wr.cell? ⟨w.heap.size, 1, none⟩ = some (.int .i64 f') := HW.out.cell 1
    have z2 : wr.cell? ⟨w.heap.size, 2, none⟩ = some (.int .i64 u') := HW.out.cell 2
    by_cases hlt : k < n
    · have hlt' : (k : Int) < (n : Int) := by omega
      have hk0 : (0 : Int) ≤ (k : Int) := by omega
      obtain ⟨b0, off, rfl, hbs, c0, c1, c2⟩ := (HL.out.below HB.out).at_ k hlt
      have hkl : k < l.length := by rw [HN.out]; exact hlt
      obtain ⟨s, hs⟩ : ∃ s, l.getD k sp0 = s := ⟨_, rfl⟩
      have hI := HI.out
      rw [drop_at l k hkl s hs] at hI
      rw [hs] at c0 c1 c2
      obtain ⟨st, sf, su⟩ := s
      dsimp only at c0 c1 c2
      clear hs
      unfold addLoop at hI
      dsimp only at hI
      have HI2 := Lib.hid hI
      have hbV : Below wr.heap.size wr (wr.alloc (.cells #[.int .i64 st, .int .i64 sf, .int .i64 su] 23)) := (Below.refl _ _).alloc (Nat.le_refl _) _
      have hwV : WholeV (wr.alloc (.cells #[.int .i64 st, .int .i64 sf, .int .i64 su] 23)) wr.heap.size 23 [.int .i64 st, .int .i64 sf, .int .i64 su] := heap_alloc_new wr _
      have hWV := HW.out.below hbV HW.out.lt
      have a0 : (wr.alloc (.cells #[.int .i64 st, .int .i64 sf, .int .i64 su] 23)).cell? ⟨wr.heap.size, 0, none⟩ = some (.int .i64 st) := hwV.cell 0
      have a1 : (wr.alloc (.cells #[.int .i64 st, .int .i64 sf, .int .i64 su] 23)).cell? ⟨wr.heap.size, 1, none⟩ = some (.int .i64 sf) := hwV.cell 1
      have a2 : (wr.alloc (.cells #[.int .i64 st, .int .i64 sf, .int .i64 su] 23)).cell? ⟨wr.heap.size, 2, none⟩ = some (.int .i64 su) := hwV.cell 2
      have v0 : (wr.alloc (.cells #[.int .i64 st, .int .i64 sf, .int .i64 su] 23)).cell? ⟨w.heap.size, 0, none⟩ = some (.int .i64 t) := hWV.cell 0
      have v1 : (wr.alloc (.cells #[.int .i64 st, .int .i64 sf, .int .i64 su] 23)).cell? ⟨w.heap.size, 1, none⟩ = some (.int .i64 f') := hWV.cell 1
      have v2 : (wr.alloc (.cells #[.int .i64 st, .int .i64 sf, .int .i64 su] 23)).cell? ⟨w.heap.size, 2, none⟩ = some (.int .i64 u') := hWV.cell 2
      have hRs : w.heap.size < wr.heap.size := Nat.lt_of_lt_of_le HS.out HWS.out
      have HVB := Lib.hid (HB.out.trans (hbV.mono HB.out.size))
      have HO1V := Lib.hid (HO1.out.keep hbV)
      have HO2V := Lib.hid (HO2.out.keep hbV)
      have HWV := Lib.hid hWV
      have HSA : Hid (W.heap.size ≤ (wr.alloc (.cells #[.int .i64 st, .int .i64 sf, .int .i64 su] 23)).heap.size) := Lib.hid (Nat.le_trans HWS.out hbV.size)
      have HNE : Hid (some w.heap.size ≠ (Value.slice A1 n1 d1).ownBlock) := Lib.hid (HO1.out.off _ (.inl HS.out))
      have HNE2 : Hid (some w.heap.size ≠ (Value.slice A2 n2 d2).ownBlock) := Lib.hid (HO2.out.off _ (.inl HS.out))
      clear hbV hwV hI hWV
      by_cases h1 : st = t
      · subst h1
        by_cases h2 : su < f'
        · have HI3 : Hid (addLoop (l.drop (k + 1)) (xs ++ [(st, sf, su)]) ys (st, f', u') = addS l (st, f, u)) := Lib.hid (by rw [← HI2.out, if_pos (.inr ⟨rfl, h2⟩)])
          go_wp2_with (first
            | (at_builtin; (with_reducible show wpList Try.prog _ _ ((⟨some 54, _, _, _, _, _⟩ : Oper) :: _) _ _); refine wpList_append_keep (o := ⟨some 54, _, _, _, _, _⟩) rfl _ _ rfl W.heap.size (.slice A1 n1 d1) n1 (n1 + 1) xs (xs ++ [(st, sf, su)]) rfl HO1V.out st sf su rfl rfl _ rfl (by first | rfl | simp) (by omega) HSA.out 23 ?_
               intro B2 e2 w2 ho2 hg2 hq2
               have HX1 := Lib.hid ho2
               have HX2 := Lib.hid (HO2V.out.apart hg2 HAP.out.symm)
               have HXA := Lib.hid (apart_new HO2V.out HAP.out hq2)
               have HXB := Lib.hid (HVB.out.grown hg2 (Nat.le_trans (Nat.le_of_lt HS.out) HSA.out) (fun g hg => Nat.le_trans (Nat.le_of_lt HS.out) (HO1V.out.ge g hg)))
               have HXW := Lib.hid (whole_grown HWV.out hg2 HNE.out)
               have HXS := Lib.hid (Nat.le_trans HSA.out hg2.size)
               clear ho2 hg2 hq2))
          exact ⟨⟨k + 1, n1 + 1, n2, B2, e2, A2, d2, f', u', _, ys, by omega, by omega, by go_num, rfl, rfl, HX1, HX2, HXA, HI3, HXW, HXB, HXS⟩, by simp [intOf]; omega⟩
        by_cases h3 : u' < sf
        · have HI3 : Hid (addLoop (l.drop (k + 1)) xs (ys ++ [(st, sf, su)]) (st, f', u') = addS l (st, f, u)) := Lib.hid (by rw [← HI2.out, if_neg (by omega), if_pos (.inr h3)])
          go_wp2_with (first
            | (at_builtin; (with_reducible show wpList Try.prog _ _ ((⟨some 71, _, _, _, _, _⟩ : Oper) :: _) _ _); refine wpList_append_keep (o := ⟨some 71, _, _, _, _, _⟩) rfl _ _ rfl W.heap.size (.slice A2 n2 d2) n2 (n2 + 1) ys (ys ++ [(st, sf, su)]) rfl HO2V.out st sf su rfl rfl _ rfl (by first | rfl | simp) (by omega) HSA.out 23 ?_
               intro B2 e2 w2 ho2 hg2 hq2
               have HX2 := Lib.hid ho2
               have HX1 := Lib.hid (HO1V.out.apart hg2 HAP.out)
               have HXA := Lib.hid (apart_new HO1V.out HAP.out.symm hq2).symm
               have HXB := Lib.hid (HVB.out.grown hg2 (Nat.le_trans (Nat.le_of_lt HS.out) HSA.out) (fun g hg => Nat.le_trans (Nat.le_of_lt HS.out) (HO2V.out.ge g hg)))
               have HXW := Lib.hid (whole_grown HWV.out hg2 HNE2.out)
               have HXS := Lib.hid (Nat.le_trans HSA.out hg2.size)
               clear ho2 hg2 hq2))
          exact ⟨⟨k + 1, n1, n2 + 1, A1, d1, B2, e2, f', u', xs, _, by omega, by omega, by go_num, rfl, rfl, HX1, HX2, HXA, HI3, HXW, HXB, HXS⟩, by simp [intOf]; omega⟩
        by_cases h4 : sf < f'
        · by_cases h5 : u' < su
          · have HI3 : Hid (addLoop (l.drop (k + 1)) xs ys (st, sf, su) = addS l (st, f, u)) := Lib.hid (by rw [← HI2.out, if_neg (by omega), if_neg (by omega), show min f' sf = sf by omega, show max u' su = su by omega])
            have q1 : wr.frozen? ⟨w.heap.size, 1, none⟩ = false := HW.out.frozen 1
            have q2 : wr.frozen? ⟨w.heap.size, 2, none⟩ = false := HW.out.frozen 2
            go_wp2
            go_region
            all_goals go_wp2
            all_goals
              obtain ⟨hs1, hs2, hs3⟩ := two_sets (f1 := sf) (u1 := su) HB.out HW.out
              obtain ⟨Y, hY⟩ : ∃ Y, (wr.setCell ⟨w.heap.size, 1, none⟩ (.int .i64 sf)).setCell ⟨w.heap.size, 2, none⟩ (.int .i64 su) = Y := ⟨_, rfl⟩
              rw [hY] at hs1 hs2 hs3 ⊢
              have hal : Below Y.heap.size Y (Y.alloc (.cells #[.int .i64 st, .int .i64 sf, .int .i64 su] 23)).drew := ((Below.refl _ _).alloc (Nat.le_refl _) _).drew
              exact ⟨⟨k + 1, n1, n2, A1, d1, A2, d2, sf, su, xs, ys, by omega, by omega, by go_num, rfl, rfl, Lib.hid ((HO1.out.sets hs3 HS.out).keep hal), Lib.hid ((HO2.out.sets hs3 HS.out).keep hal), HAP, HI3, Lib.hid (hs1.below hal hs1.lt), Lib.hid (hs2.trans (hal.mono hs2.size)), Lib.hid (Nat.le_trans HWS.out (Nat.le_trans (by have := hs3.size; omega) hal.size))⟩, by simp [intOf]; omega⟩
          · have HI3 : Hid (addLoop (l.drop (k + 1)) xs ys (st, sf, u') = addS l (st, f, u)) := Lib.hid (by rw [← HI2.out, if_neg (by omega), if_neg (by omega), show min f' sf = sf by omega, show max u' su = u' by omega])
            have q1 : wr.frozen? ⟨w.heap.size, 1, none⟩ = false := HW.out.frozen 1
            have q2 : wr.frozen? ⟨w.heap.size, 2, none⟩ = false := HW.out.frozen 2
            go_wp2
            go_region
            all_goals go_wp2
            all_goals
              obtain ⟨hs1, hs2, hs3⟩ := two_sets (f1 := sf) (u1 := u') HB.out HW.out
              obtain ⟨Y, hY⟩ : ∃ Y, (wr.setCell ⟨w.heap.size, 1, none⟩ (.int .i64 sf)).setCell ⟨w.heap.size, 2, none⟩ (.int .i64 u') = Y := ⟨_, rfl⟩
              rw [hY] at hs1 hs2 hs3 ⊢
              have hal : Below Y.heap.size Y (Y.alloc (.cells #[.int .i64 st, .int .i64 sf, .int .i64 su] 23)).drew := ((Below.refl _ _).alloc (Nat.le_refl _) _).drew
              exact ⟨⟨k + 1, n1, n2, A1, d1, A2, d2, sf, u', xs, ys, by omega, by omega, by go_num, rfl, rfl, Lib.hid ((HO1.out.sets hs3 HS.out).keep hal), Lib.hid ((HO2.out.sets hs3 HS.out).keep hal), HAP, HI3, Lib.hid (hs1.below hal hs1.lt), Lib.hid (hs2.trans (hal.mono hs2.size)), Lib.hid (Nat.le_trans HWS.out (Nat.le_trans (by have := hs3.size; omega) hal.size))⟩, by simp [intOf]; omega⟩
        · by_cases h5 : u' < su
          · have HI3 : Hid (addLoop (l.drop (k + 1)) xs ys (st, f', su) = addS l (st, f, u)) := Lib.hid (by rw [← HI2.out, if_neg (by omega), if_neg (by omega), show min f' sf = f' by omega, show max u' su = su by omega])
            have q1 : wr.frozen? ⟨w.heap.size, 1, none⟩ = false := HW.out.frozen 1
            have q2 : wr.frozen? ⟨w.heap.size, 2, none⟩ = false := HW.out.frozen 2
            go_wp2
            go_region
            all_goals go_wp2
            all_goals
              obtain ⟨hs1, hs2, hs3⟩ := two_sets (f1 := f') (u1 := su) HB.out HW.out
              obtain ⟨Y, hY⟩ : ∃ Y, (wr.setCell ⟨w.heap.size, 1, none⟩ (.int .i64 f')).setCell ⟨w.heap.size, 2, none⟩ (.int .i64 su) = Y := ⟨_, rfl⟩
              rw [hY] at hs1 hs2 hs3 ⊢
              have hal : Below Y.heap.size Y (Y.alloc (.cells #[.int .i64 st, .int .i64 sf, .int .i64 su] 23)).drew := ((Below.refl _ _).alloc (Nat.le_refl _) _).drew
              exact ⟨⟨k + 1, n1, n2, A1, d1, A2, d2, f', su, xs, ys, by omega, by omega, by go_num, rfl, rfl, Lib.hid ((HO1.out.sets hs3 HS.out).keep hal), Lib.hid ((HO2.out.sets hs3 HS.out).keep hal), HAP, HI3, Lib.hid (hs1.below hal hs1.lt), Lib.hid (hs2.trans (hal.mono hs2.size)), Lib.hid (Nat.le_trans HWS.out (Nat.le_trans (by have := hs3.size; omega) hal.size))⟩, by simp [intOf]; omega⟩
          · have HI3 : Hid (addLoop (l.drop (k + 1)) xs ys (st, f', u') = addS l (st, f, u)) := Lib.hid (by rw [← HI2.out, if_neg (by omega), if_neg (by omega), show min f' sf = f' by omega, show max u' su = u' by omega])
            have q1 : wr.frozen? ⟨w.heap.size, 1, none⟩ = false := HW.out.frozen 1
            have q2 : wr.frozen? ⟨w.heap.size, 2, none⟩ = false := HW.out.frozen 2
            go_wp2
            go_region
            all_goals go_wp2
            all_goals
              obtain ⟨hs1, hs2, hs3⟩ := two_sets (f1 := f') (u1 := u') HB.out HW.out
              obtain ⟨Y, hY⟩ : ∃ Y, (wr.setCell ⟨w.heap.size, 1, none⟩ (.int .i64 f')).setCell ⟨w.heap.size, 2, none⟩ (.int .i64 u') = Y := ⟨_, rfl⟩
              rw [hY] at hs1 hs2 hs3 ⊢
              have hal : Below Y.heap.size Y (Y.alloc (.cells #[.int .i64 st, .int .i64 sf, .int .i64 su] 23)).drew := ((Below.refl _ _).alloc (Nat.le_refl _) _).drew
              exact ⟨⟨k + 1, n1, n2, A1, d1, A2, d2, f', u', xs, ys, by omega, by omega, by go_num, rfl, rfl, Lib.hid ((HO1.out.sets hs3 HS.out).keep hal), Lib.hid ((HO2.out.sets hs3 HS.out).keep hal), HAP, HI3, Lib.hid (hs1.below hal hs1.lt), Lib.hid (hs2.trans (hal.mono hs2.size)), Lib.hid (Nat.le_trans HWS.out (Nat.le_trans (by have := hs3.size; omega) hal.size))⟩, by simp [intOf]; omega⟩
      by_cases h2 : st < t
      · have HI3 : Hid (addLoop (l.drop (k + 1)) (xs ++ [(st, sf, su)]) ys (t, f', u') = addS l (t, f, u)) := Lib.hid (by rw [← HI2.out, if_pos (.inl h2)])
        go_wp2_with (first
          | (at_builtin; (with_reducible show wpList Try.prog _ _ ((⟨some 54, _, _, _, _, _⟩ : Oper) :: _) _ _); refine wpList_append_keep (o := ⟨some 54, _, _, _, _, _⟩) rfl _ _ rfl W.heap.size (.slice A1 n1 d1) n1 (n1 + 1) xs (xs ++ [(st, sf, su)]) rfl HO1V.out st sf su rfl rfl _ rfl (by first | rfl | simp) (by omega) HSA.out 23 ?_
             intro B2 e2 w2 ho2 hg2 hq2
             have HX1 := Lib.hid ho2
             have HX2 := Lib.hid (HO2V.out.apart hg2 HAP.out.symm)
             have HXA := Lib.hid (apart_new HO2V.out HAP.out hq2)
             have HXB := Lib.hid (HVB.out.grown hg2 (Nat.le_trans (Nat.le_of_lt HS.out) HSA.out) (fun g hg => Nat.le_trans (Nat.le_of_lt HS.out) (HO1V.out.ge g hg)))
             have HXW := Lib.hid (whole_grown HWV.out hg2 HNE.out)
             have HXS := Lib.hid (Nat.le_trans HSA.out hg2.size)
             clear ho2 hg2 hq2))
        exact ⟨⟨k + 1, n1 + 1, n2, B2, e2, A2, d2, f', u', _, ys, by omega, by omega, by go_num, rfl, rfl, HX1, HX2, HXA, HI3, HXW, HXB, HXS⟩, by simp [intOf]; omega⟩
      have h3 : t < st := by omega
      have HI3 : Hid (addLoop (l.drop (k + 1)) xs (ys ++ [(st, sf, su)]) (t, f', u') = addS l (t, f, u)) := Lib.hid (by rw [← HI2.out, if_neg (by omega), if_pos (.inl h3)])
      go_wp2_with (first
        | (at_builtin; (with_reducible show wpList Try.prog _ _ ((⟨some 71, _, _, _, _, _⟩ : Oper) :: _) _ _); refine wpList_append_keep (o := ⟨some 71, _, _, _, _, _⟩) rfl _ _ rfl W.heap.size (.slice A2 n2 d2) n2 (n2 + 1) ys (ys ++ [(st, sf, su)]) rfl HO2V.out st sf su rfl rfl _ rfl (by first | rfl | simp) (by omega) HSA.out 23 ?_
           intro B2 e2 w2 ho2 hg2 hq2
           have HX2 := Lib.hid ho2
           have HX1 := Lib.hid (HO1V.out.apart hg2 HAP.out)
           have HXA := Lib.hid (apart_new HO1V.out HAP.out.symm hq2).symm
           have HXB := Lib.hid (HVB.out.grown hg2 (Nat.le_trans (Nat.le_of_lt HS.out) HSA.out) (fun g hg => Nat.le_trans (Nat.le_of_lt HS.out) (HO2V.out.ge g hg)))
           have HXW := Lib.hid (whole_grown HWV.out hg2 HNE2.out)
           have HXS := Lib.hid (Nat.le_trans HSA.out hg2.size)
           clear ho2 hg2 hq2))
      exact ⟨⟨k + 1, n1, n2 + 1, A1, d1, B2, e2, f', u', xs, _, by omega, by omega, by go_num, rfl, rfl, HX1, HX2, HXA, HI3, HXW, HXB, HXS⟩, by simp [intOf]; omega⟩
    · have hge : ¬ (k : Int) < (n : Int) := by omega
      have hI := HI.out
      rw [List.drop_of_length_le (by rw [HN.out]; omega)] at hI
      have HI2 : Hid (xs ++ (t, f', u') :: ys = addS l (t, f, u)) := Lib.hid hI
      clear hI
      go_wp2_with (first
        | (at_builtin; (with_reducible show wpList Try.prog _ _ ((⟨some 75, _, _, _, _, _⟩ : Oper) :: _) _ _); refine wpList_append_keep (o := ⟨some 75, _, _, _, _, _⟩) rfl _ _ rfl W.heap.size (.slice A1 n1 d1) n1 (n1 + 1) xs (xs ++ [(t, f', u')]) rfl HO1.out t f' u' rfl rfl _ rfl (by first | rfl | simp) (by omega) HWS.out 23 ?_
           intro B2 e2 w2 ho2 hg2 hq2
           have HX1 := Lib.hid ho2
           have HX2 := Lib.hid (HO2.out.apart hg2 HAP.out.symm)
           have HXB := Lib.hid (HB.out.grown hg2 (Nat.le_trans (Nat.le_of_lt HS.out) HWS.out) (fun g hg => Nat.le_trans (Nat.le_of_lt HS.out) (HO1.out.ge g hg)))
           have HXS := Lib.hid (Nat.le_trans HWS.out hg2.size)
           clear ho2 hg2 hq2)
        | (at_builtin; (with_reducible show wpList Try.prog _ _ ((⟨some 77, _, _, _, _, _⟩ : Oper) :: _) _ _); refine wpList_append_sps (o := ⟨some 77, _, _, _, _, _⟩) rfl _ _ rfl W.heap.size (.slice B2 (n1 + 1) e2) (n1 + 1) (n1 + 1 + n2) (xs ++ [(t, f', u')]) (addS l (t, f, u)) rfl HX1.out A2 n2 d2 ys rfl (by rw [← HI2.out]; simp) rfl HX2.out.sl (by omega) HXS.out ?_
           intro B3 e3 w3 ho3 hg3
           have HY1 := Lib.hid ho3
           have HYB := Lib.hid (HXB.out.grown hg3 (Nat.le_trans (Nat.le_of_lt HS.out) HXS.out) (fun g hg => Nat.le_trans (Nat.le_of_lt HS.out) (HX1.out.ge g hg)))
           clear ho3 hg3))
      go_ret
      exact ⟨⟨B3, n1 + 1 + n2, e3, rfl, HY1.out.mono (Nat.le_of_lt HS.out), by omega⟩, HYB.out⟩

end Go.Proofs.Ytlnmdepaobocnaa

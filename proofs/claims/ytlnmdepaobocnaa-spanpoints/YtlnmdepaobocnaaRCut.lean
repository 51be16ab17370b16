/- The document's lists of spans: Cut. No statement is proved here. -/
import Derived.Test.YtlnmdepaobocnaaSpanB
import Derived.Test.YtlnmdepaobocnaaSpan2
namespace Go.Proofs.Ytlnmdepaobocnaa
open Go.ChangeShapes Go.WideShapes Go.ChangeAt Go.RowKit
set_option linter.unusedVariables false
set_option linter.unusedSimpArgs false

theorem cut_front (l : List Sp) (s : Sp) (k : Nat) (h : k < l.length) (x : Sp) (hx : l.getD k sp0 = x) : cutS (l.take (k + 1)) s = cutS (l.take k) s ++ cut1 s x := by
  rw [getD_take_succ l k h, hx]
  unfold cutS
  rw [List.flatMap_append]
  simp

set_option maxRecDepth 100000 in
set_option maxHeartbeats 8000000 in
theorem rcut_any (A : Option Addr) (n c : Nat) (l : List Sp) (t f u : Int) (w : World) (hl : SL w A n l) (hn : n ≤ 100000) :
    Calls Try.prog 24 #[.slice A n c, .agg #[.int .i64 t, .int .i64 f, .int .i64 u]] w fun e w' => (∃ B m d, e = .returned (.slice B m d) ∧ SO w' w.heap.size (.slice B m d) m (cutS l (t, f, u)) ∧ m ≤ 2 * n) ∧ Below w.heap.size w w' := by
  obtain ⟨W, hW⟩ : ∃ W, w.alloc (.cells #[.int .i64 t, .int .i64 f, .int .i64 u] 23) = W := ⟨_, rfl⟩
  have hk : Below w.heap.size w W := by rw [← hW]; exact (Below.refl _ _).alloc (Nat.le_refl _) _
  have h0 : WholeV W w.heap.size 23 [.int .i64 t, .int .i64 f, .int .i64 u] := by rw [← hW]; exact heap_alloc_new w _
  have x0 : W.cell? ⟨w.heap.size, 0, none⟩ = some (.int .i64 t) := h0.cell 0
  have x1 : W.cell? ⟨w.heap.size, 1, none⟩ = some (.int .i64 f) := h0.cell 1
  have x2 : W.cell? ⟨w.heap.size, 2, none⟩ = some (.int .i64 u) := h0.cell 2
  have HK := Lib.hid hk
  have HL := Lib.hid (hl.below hk)
  have HS := Lib.hid h0.lt
  have HN := Lib.hid hl.len
  clear hk h0 hl
  go_enter Try.func24, Try.ntmps24
  go_wp2
  go_loopw [5, 6] (fun o i wr => ∃ (k m : Nat) (B : Option Addr) (d : Nat), k ≤ n ∧ m ≤ 2 * k ∧ i = .int .i64 (k : Int) ∧ o = .slice B m d ∧ Hid (SO wr W.heap.size (.slice B m d) m (cutS (l.take k) (t, f, u))) ∧ Hid (Below W.heap.size W wr)) (fun _ i _ => n - (intOf i).toNat)
  case atStart => exact ⟨0, 0, none, 0, by omega, by omega, rfl, rfl, Lib.hid (SO.nil _ _), Lib.hid (Below.refl _ _)⟩
  case round =>
    obtain ⟨k, m, B, d, hkn, hmk, rfl, rfl, HO, HB⟩ := hrel
    by_cases hlt : k < n
    · have hlt' : (k : Int) < (n : Int) := by omega
      have hk0 : (0 : Int) ≤ (k : Int) := by omega
      obtain ⟨b0, off, rfl, hbs, c0, c1, c2⟩ := (HL.out.below HB.out).at_ k hlt
      have hkl : k < l.length := by rw [HN.out]; exact hlt
      obtain ⟨s, hs⟩ : ∃ s, l.getD k sp0 = s := ⟨_, rfl⟩
      have HT := Lib.hid (cut_front l (t, f, u) k hkl s hs)
      rw [hs] at c0 c1 c2
      obtain ⟨st, sf, su⟩ := s
      dsimp only at c0 c1 c2
      clear hs
      have z0 := (HB.out.cell (p := ⟨w.heap.size, 0, none⟩) HS.out).trans x0
      have z1 := (HB.out.cell (p := ⟨w.heap.size, 1, none⟩) HS.out).trans x1
      have z2 := (HB.out.cell (p := ⟨w.heap.size, 2, none⟩) HS.out).trans x2
      have hbV : Below wr.heap.size wr (wr.alloc (.cells #[.int .i64 st, .int .i64 sf, .int .i64 su] 23)) := (Below.refl _ _).alloc (Nat.le_refl _) _
      have hwV : WholeV (wr.alloc (.cells #[.int .i64 st, .int .i64 sf, .int .i64 su] 23)) wr.heap.size 23 [.int .i64 st, .int .i64 sf, .int .i64 su] := heap_alloc_new wr _
      have a0 : (wr.alloc (.cells #[.int .i64 st, .int .i64 sf, .int .i64 su] 23)).cell? ⟨wr.heap.size, 0, none⟩ = some (.int .i64 st) := hwV.cell 0
      have a1 : (wr.alloc (.cells #[.int .i64 st, .int .i64 sf, .int .i64 su] 23)).cell? ⟨wr.heap.size, 1, none⟩ = some (.int .i64 sf) := hwV.cell 1
      have a2 : (wr.alloc (.cells #[.int .i64 st, .int .i64 sf, .int .i64 su] 23)).cell? ⟨wr.heap.size, 2, none⟩ = some (.int .i64 su) := hwV.cell 2
      have hRs : w.heap.size < wr.heap.size := Nat.lt_of_lt_of_le HS.out HB.out.size
      have v0 := (hbV.cell (p := ⟨w.heap.size, 0, none⟩) hRs).trans z0
      have v1 := (hbV.cell (p := ⟨w.heap.size, 1, none⟩) hRs).trans z1
      have v2 := (hbV.cell (p := ⟨w.heap.size, 2, none⟩) hRs).trans z2
      have HVB := Lib.hid (HB.out.trans (hbV.mono HB.out.size))
      have HOV := Lib.hid (HO.out.keep hbV)
      have HSA : Hid (W.heap.size ≤ (wr.alloc (.cells #[.int .i64 st, .int .i64 sf, .int .i64 su] 23)).heap.size) := Lib.hid (Nat.le_trans HB.out.size hbV.size)
      have HSC : Hid (w.heap.size < (wr.alloc (.cells #[.int .i64 st, .int .i64 sf, .int .i64 su] 23)).heap.size) := Lib.hid (Nat.lt_of_lt_of_le hRs hbV.size)
      have HNE : Hid (some wr.heap.size ≠ (Value.slice B m d).ownBlock ∧ some w.heap.size ≠ (Value.slice B m d).ownBlock) := Lib.hid ⟨HO.out.off _ (.inr (Nat.le_refl _)), HO.out.off _ (.inl HS.out)⟩
      clear hbV hwV hRs
      unfold cut1 at HT
      dsimp only at HT
      by_cases h1 : st = t
      · subst h1
        by_cases h2 : su ≤ f
        · have HT2 : Hid (cutS (l.take (k + 1)) (st, f, u) = (cutS (l.take k) (st, f, u)) ++ [(st, sf, su)]) := Lib.hid (by rw [HT.out, if_pos (.inr (.inl h2))])
          go_wp2_with (first
            | (at_builtin; (with_reducible show wpList Try.prog _ _ ((⟨some 40, _, _, _, _, _⟩ : Oper) :: _) _ _); refine wpList_append_keep (o := ⟨some 40, _, _, _, _, _⟩) rfl _ _ rfl W.heap.size (.slice B m d) m (m + 1) (cutS (l.take k) (st, f, u)) ((cutS (l.take k) (st, f, u)) ++ [(st, sf, su)]) rfl HOV.out st sf su rfl rfl _ rfl (by first | rfl | simp) (by omega) HSA.out 23 ?_
               intro B2 d2 w2 ho2 hg2 hq2
               have HO2 := Lib.hid ho2
               have HB2 := Lib.hid (HVB.out.grown hg2 HSA.out HOV.out.ge)
               have HZ2 := Lib.hid (Nat.le_trans HSA.out hg2.size)
               have b1 := hg2.cell a1 HNE.out.1
               have b2 := hg2.cell a2 HNE.out.1
               have b0 := hg2.cell a0 HNE.out.1
               have y2 := hg2.cell v2 HNE.out.2
               clear ho2 hg2 hq2))
          have hfin := HO2.out
          rw [← HT2.out] at hfin
          exact ⟨⟨k + 1, (m + 1), B2, d2, by omega, by omega, by go_num, rfl, Lib.hid hfin, HB2⟩, by simp [intOf]; omega⟩
        by_cases h3 : u ≤ sf
        · have HT2 : Hid (cutS (l.take (k + 1)) (st, f, u) = (cutS (l.take k) (st, f, u)) ++ [(st, sf, su)]) := Lib.hid (by rw [HT.out, if_pos (.inr (.inr h3))])
          go_wp2_with (first
            | (at_builtin; (with_reducible show wpList Try.prog _ _ ((⟨some 40, _, _, _, _, _⟩ : Oper) :: _) _ _); refine wpList_append_keep (o := ⟨some 40, _, _, _, _, _⟩) rfl _ _ rfl W.heap.size (.slice B m d) m (m + 1) (cutS (l.take k) (st, f, u)) ((cutS (l.take k) (st, f, u)) ++ [(st, sf, su)]) rfl HOV.out st sf su rfl rfl _ rfl (by first | rfl | simp) (by omega) HSA.out 23 ?_
               intro B2 d2 w2 ho2 hg2 hq2
               have HO2 := Lib.hid ho2
               have HB2 := Lib.hid (HVB.out.grown hg2 HSA.out HOV.out.ge)
               have HZ2 := Lib.hid (Nat.le_trans HSA.out hg2.size)
               have b1 := hg2.cell a1 HNE.out.1
               have b2 := hg2.cell a2 HNE.out.1
               have b0 := hg2.cell a0 HNE.out.1
               have y2 := hg2.cell v2 HNE.out.2
               clear ho2 hg2 hq2))
          have hfin := HO2.out
          rw [← HT2.out] at hfin
          exact ⟨⟨k + 1, (m + 1), B2, d2, by omega, by omega, by go_num, rfl, Lib.hid hfin, HB2⟩, by simp [intOf]; omega⟩
        by_cases h4 : sf < f
        · by_cases h5 : u < su
          · have HT2 : Hid (cutS (l.take (k + 1)) (st, f, u) = (cutS (l.take k) (st, f, u)) ++ [(st, sf, f)] ++ [(st, u, su)]) := Lib.hid (by rw [HT.out, if_neg (by omega), if_pos h4, if_pos h5]; simp)
            go_wp2_with (first
              | (at_builtin; (with_reducible show wpList Try.prog _ _ ((⟨some 55, _, _, _, _, _⟩ : Oper) :: _) _ _); refine wpList_append_keep (o := ⟨some 55, _, _, _, _, _⟩) rfl _ _ rfl W.heap.size (.slice B m d) m (m + 1) (cutS (l.take k) (st, f, u)) ((cutS (l.take k) (st, f, u)) ++ [(st, sf, f)]) rfl HOV.out st sf f rfl rfl _ rfl (by first | rfl | simp) (by omega) HSA.out 23 ?_
                 intro B2 d2 w2 ho2 hg2 hq2
                 have HO2 := Lib.hid ho2
                 have HB2 := Lib.hid (HVB.out.grown hg2 HSA.out HOV.out.ge)
                 have HZ2 := Lib.hid (Nat.le_trans HSA.out hg2.size)
                 have b1 := hg2.cell a1 HNE.out.1
                 have b2 := hg2.cell a2 HNE.out.1
                 have b0 := hg2.cell a0 HNE.out.1
                 have y2 := hg2.cell v2 HNE.out.2
                 clear ho2 hg2 hq2)
              | (at_builtin; (with_reducible show wpList Try.prog _ _ ((⟨some 70, _, _, _, _, _⟩ : Oper) :: _) _ _); refine wpList_append_keep (o := ⟨some 70, _, _, _, _, _⟩) rfl _ _ rfl W.heap.size (.slice B2 (m + 1) d2) (m + 1) ((m + 1) + 1) ((cutS (l.take k) (st, f, u)) ++ [(st, sf, f)]) (((cutS (l.take k) (st, f, u)) ++ [(st, sf, f)]) ++ [(st, u, su)]) rfl HO2.out st u su rfl rfl _ rfl (by first | rfl | simp) (by omega) HZ2.out 23 ?_
                 intro B3 d3 w3 ho3 hg3 hq3
                 have HO3 := Lib.hid ho3
                 have HB3 := Lib.hid (HB2.out.grown hg3 HZ2.out HO2.out.ge)
                 clear ho3 hg3 hq3))
            have hfin := HO3.out
            rw [← HT2.out] at hfin
            exact ⟨⟨k + 1, (m + 1 + 1), B3, d3, by omega, by omega, by go_num, rfl, Lib.hid hfin, HB3⟩, by simp [intOf]; omega⟩
          · have HT2 : Hid (cutS (l.take (k + 1)) (st, f, u) = (cutS (l.take k) (st, f, u)) ++ [(st, sf, f)]) := Lib.hid (by rw [HT.out, if_neg (by omega), if_pos h4, if_neg h5]; simp)
            go_wp2_with (first
              | (at_builtin; (with_reducible show wpList Try.prog _ _ ((⟨some 55, _, _, _, _, _⟩ : Oper) :: _) _ _); refine wpList_append_keep (o := ⟨some 55, _, _, _, _, _⟩) rfl _ _ rfl W.heap.size (.slice B m d) m (m + 1) (cutS (l.take k) (st, f, u)) ((cutS (l.take k) (st, f, u)) ++ [(st, sf, f)]) rfl HOV.out st sf f rfl rfl _ rfl (by first | rfl | simp) (by omega) HSA.out 23 ?_
                 intro B2 d2 w2 ho2 hg2 hq2
                 have HO2 := Lib.hid ho2
                 have HB2 := Lib.hid (HVB.out.grown hg2 HSA.out HOV.out.ge)
                 have HZ2 := Lib.hid (Nat.le_trans HSA.out hg2.size)
                 have b1 := hg2.cell a1 HNE.out.1
                 have b2 := hg2.cell a2 HNE.out.1
                 have b0 := hg2.cell a0 HNE.out.1
                 have y2 := hg2.cell v2 HNE.out.2
                 clear ho2 hg2 hq2))
            have hfin := HO2.out
            rw [← HT2.out] at hfin
            exact ⟨⟨k + 1, (m + 1), B2, d2, by omega, by omega, by go_num, rfl, Lib.hid hfin, HB2⟩, by simp [intOf]; omega⟩
        · by_cases h5 : u < su
          · have HT2 : Hid (cutS (l.take (k + 1)) (st, f, u) = (cutS (l.take k) (st, f, u)) ++ [(st, u, su)]) := Lib.hid (by rw [HT.out, if_neg (by omega), if_neg h4, if_pos h5]; simp)
            go_wp2_with (first
              | (at_builtin; (with_reducible show wpList Try.prog _ _ ((⟨some 70, _, _, _, _, _⟩ : Oper) :: _) _ _); refine wpList_append_keep (o := ⟨some 70, _, _, _, _, _⟩) rfl _ _ rfl W.heap.size (.slice B m d) m (m + 1) (cutS (l.take k) (st, f, u)) ((cutS (l.take k) (st, f, u)) ++ [(st, u, su)]) rfl HOV.out st u su rfl rfl _ rfl (by first | rfl | simp) (by omega) HSA.out 23 ?_
                 intro B2 d2 w2 ho2 hg2 hq2
                 have HO2 := Lib.hid ho2
                 have HB2 := Lib.hid (HVB.out.grown hg2 HSA.out HOV.out.ge)
                 have HZ2 := Lib.hid (Nat.le_trans HSA.out hg2.size)
                 have b1 := hg2.cell a1 HNE.out.1
                 have b2 := hg2.cell a2 HNE.out.1
                 have b0 := hg2.cell a0 HNE.out.1
                 have y2 := hg2.cell v2 HNE.out.2
                 clear ho2 hg2 hq2))
            have hfin := HO2.out
            rw [← HT2.out] at hfin
            exact ⟨⟨k + 1, (m + 1), B2, d2, by omega, by omega, by go_num, rfl, Lib.hid hfin, HB2⟩, by simp [intOf]; omega⟩
          · have HT2 : Hid (cutS (l.take (k + 1)) (st, f, u) = (cutS (l.take k) (st, f, u))) := Lib.hid (by rw [HT.out, if_neg (by omega), if_neg h4, if_neg h5]; simp)
            go_wp2
            have hfin := HOV.out
            rw [← HT2.out] at hfin
            exact ⟨⟨k + 1, m, B, d, by omega, by omega, by go_num, rfl, Lib.hid hfin, HVB⟩, by simp [intOf]; omega⟩
      · have HT2 : Hid (cutS (l.take (k + 1)) (t, f, u) = (cutS (l.take k) (t, f, u)) ++ [(st, sf, su)]) := Lib.hid (by rw [HT.out, if_pos (.inl h1)])
        go_wp2_with (first
          | (at_builtin; (with_reducible show wpList Try.prog _ _ ((⟨some 40, _, _, _, _, _⟩ : Oper) :: _) _ _); refine wpList_append_keep (o := ⟨some 40, _, _, _, _, _⟩) rfl _ _ rfl W.heap.size (.slice B m d) m (m + 1) (cutS (l.take k) (t, f, u)) ((cutS (l.take k) (t, f, u)) ++ [(st, sf, su)]) rfl HOV.out st sf su rfl rfl _ rfl (by first | rfl | simp) (by omega) HSA.out 23 ?_
             intro B2 d2 w2 ho2 hg2 hq2
             have HO2 := Lib.hid ho2
             have HB2 := Lib.hid (HVB.out.grown hg2 HSA.out HOV.out.ge)
             have HZ2 := Lib.hid (Nat.le_trans HSA.out hg2.size)
             have b1 := hg2.cell a1 HNE.out.1
             have b2 := hg2.cell a2 HNE.out.1
             have b0 := hg2.cell a0 HNE.out.1
             have y2 := hg2.cell v2 HNE.out.2
             clear ho2 hg2 hq2))
        have hfin := HO2.out
        rw [← HT2.out] at hfin
        exact ⟨⟨k + 1, (m + 1), B2, d2, by omega, by omega, by go_num, rfl, Lib.hid hfin, HB2⟩, by simp [intOf]; omega⟩
    · have hge : ¬ (k : Int) < (n : Int) := by omega
      have hI := HO.out
      rw [List.take_of_length_le (by rw [HN.out]; omega)] at hI
      have HO2 := Lib.hid hI
      clear hI
      go_wp2
      go_ret
      exact ⟨⟨B, m, d, rfl, HO2.out.mono HK.out.size, by omega⟩, HK.out.trans (HB.out.mono HK.out.size)⟩

end Go.Proofs.Ytlnmdepaobocnaa

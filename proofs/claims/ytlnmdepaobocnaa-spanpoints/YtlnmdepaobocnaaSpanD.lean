/- The program's spans: sides (what is ahead of one within another, what is behind). No statement is proved here. -/
import Derived.Test.YtlnmdepaobocnaaSpanT
import Derived.Test.YtlnmdepaobocnaaWideAt
import Derived.Test.YtlnmdepaobocnaaSpanA
namespace Go.Proofs.Ytlnmdepaobocnaa
open Go.ChangeShapes Go.WideShapes Go.ChangeAt Go.RowKit
set_option linter.unusedVariables false
set_option linter.unusedSimpArgs false

set_option maxRecDepth 100000 in
set_option maxHeartbeats 4000000 in
theorem sides_any (z s : Sp) (w : World) :
    Calls Try.prog 38 #[.agg #[.int .i64 z.1, .int .i64 z.2.1, .int .i64 z.2.2], .agg #[.int .i64 s.1, .int .i64 s.2.1, .int .i64 s.2.2]] w fun e w' => (∃ A n c, e = .returned (.slice A n c) ∧ SO w' w.heap.size (.slice A n c) n (sidS z s) ∧ n ≤ 2) ∧ Below w.heap.size w w' := by
  obtain ⟨zt, zf, zu⟩ := z
  obtain ⟨t, f, u⟩ := s
  dsimp only
  obtain ⟨W, hW, hk, hA, hB⟩ := two_boxes3 w #[.int .i64 zt, .int .i64 zf, .int .i64 zu] #[.int .i64 t, .int .i64 f, .int .i64 u] 23
  have hmk : (Instr.makeSlice 24 (.int .i64 0) (.int .i64 2)).run Try.prog W = .ok (.slice (some ⟨W.heap.size, 0, none⟩) 0 2) (W.alloc (.cells (sps (List.replicate 2 sp0)).toArray 23)) := make_sps 0 2 (by omega) (by omega) W
  obtain ⟨V, hV⟩ : ∃ V, W.alloc (.cells (sps (List.replicate 2 sp0)).toArray 23) = V := ⟨_, rfl⟩
  have hv : Below W.heap.size W V := by rw [← hV]; exact (Below.refl _ _).alloc (Nat.le_refl _) _
  have hwv : WholeV V W.heap.size 23 (sps [] ++ sps (List.replicate 2 sp0)) := by rw [← hV]; exact heap_alloc_new W _
  have hown : SO V W.heap.size (.slice (some ⟨W.heap.size, 0, none⟩) 0 2) 0 [] := so_of_whole hwv (Nat.le_refl _) rfl rfl (by omega) (by omega)
  rw [hV] at hmk
  have hA' := hA.below hv hA.lt
  have hB' := hB.below hv hB.lt
  have a1 := hA'.cell 1
  have a2 := hA'.cell 2
  have b0 := hB'.cell 0
  have b1 := hB'.cell 1
  have b2 := hB'.cell 2
  have HB := Lib.hid hv
  have HK := Lib.hid hk
  have HA := Lib.hid hA
  have HBX := Lib.hid hB
  have HO := Lib.hid hown
  have HS : Hid (W.heap.size ≤ V.heap.size) := HB.out.size
  clear hk hv hwv hown hA' hB' hA hB hV
  unfold sidS
  dsimp only
  by_cases g1 : zf < f
  · by_cases g2 : u < zu
    · rw [if_pos g1, if_pos g2]
      go_enter Try.func38, Try.ntmps38
      go_wp2_with (first
        | (at_builtin; (with_reducible show wpList Try.prog _ _ ((⟨some 21, _, _, _, _, _⟩ : Oper) :: _) _ _); refine wpList_append_one (o := ⟨some 21, _, _, _, _, _⟩) rfl _ _ rfl W.heap.size (.slice (some ⟨W.heap.size, 0, none⟩) 0 2) 0 1 [] [(t, zf, f)] rfl HO.out t zf f rfl rfl rfl (by omega) W HB.out HS.out 23 ?_
           intro A2 c2 w2 ho2 hb2 hs2
           have hA2 := HA.out.below hb2 HA.out.lt
           have hB2 := HBX.out.below hb2 HBX.out.lt
           have a2' := hA2.cell 2
           have b0' := hB2.cell 0
           have b2' := hB2.cell 2
           have HO2 := Lib.hid ho2
           have HB2 := Lib.hid hb2
           have HS2 := Lib.hid hs2
           clear ho2 hb2 hs2 hA2 hB2)
        | (at_builtin; (with_reducible show wpList Try.prog _ _ ((⟨some 36, _, _, _, _, _⟩ : Oper) :: _) _ _); refine wpList_append_one (o := ⟨some 36, _, _, _, _, _⟩) rfl _ _ rfl W.heap.size (.slice A2 1 c2) 1 2 [(t, zf, f)] ([(t, zf, f)] ++ [(t, u, zu)]) rfl HO2.out t u zu rfl rfl rfl (by omega) W HB2.out HS2.out 23 ?_
           intro A3 c3 w3 ho3 hb3 hs3
           have HO3 := Lib.hid ho3
           have HB3 := Lib.hid hb3
           clear ho3 hb3 hs3))
      go_ret
      exact ⟨⟨A3, 2, c3, rfl, HO3.out.mono HK.out.size, by omega⟩, HK.out.trans (HB3.out.mono HK.out.size)⟩
    · rw [if_pos g1, if_neg g2]
      go_enter Try.func38, Try.ntmps38
      go_wp2_with (first
        | (at_builtin; (with_reducible show wpList Try.prog _ _ ((⟨some 21, _, _, _, _, _⟩ : Oper) :: _) _ _); refine wpList_append_one (o := ⟨some 21, _, _, _, _, _⟩) rfl _ _ rfl W.heap.size (.slice (some ⟨W.heap.size, 0, none⟩) 0 2) 0 1 [] [(t, zf, f)] rfl HO.out t zf f rfl rfl rfl (by omega) W HB.out HS.out 23 ?_
           intro A2 c2 w2 ho2 hb2 hs2
           have hA2 := HA.out.below hb2 HA.out.lt
           have hB2 := HBX.out.below hb2 HBX.out.lt
           have a2' := hA2.cell 2
           have b0' := hB2.cell 0
           have b2' := hB2.cell 2
           have HO2 := Lib.hid ho2
           have HB2 := Lib.hid hb2
           have HS2 := Lib.hid hs2
           clear ho2 hb2 hs2 hA2 hB2))
      go_ret
      exact ⟨⟨A2, 1, c2, rfl, HO2.out.mono HK.out.size, by omega⟩, HK.out.trans (HB2.out.mono HK.out.size)⟩
  · by_cases g2 : u < zu
    · rw [if_neg g1, if_pos g2]
      go_enter Try.func38, Try.ntmps38
      go_wp2_with (first
        | (at_builtin; (with_reducible show wpList Try.prog _ _ ((⟨some 36, _, _, _, _, _⟩ : Oper) :: _) _ _); refine wpList_append_one (o := ⟨some 36, _, _, _, _, _⟩) rfl _ _ rfl W.heap.size (.slice (some ⟨W.heap.size, 0, none⟩) 0 2) 0 1 [] ([] ++ [(t, u, zu)]) rfl HO.out t u zu rfl rfl rfl (by omega) W HB.out HS.out 23 ?_
           intro A3 c3 w3 ho3 hb3 hs3
           have HO3 := Lib.hid ho3
           have HB3 := Lib.hid hb3
           clear ho3 hb3 hs3))
      go_ret
      exact ⟨⟨A3, 1, c3, rfl, HO3.out.mono HK.out.size, by omega⟩, HK.out.trans (HB3.out.mono HK.out.size)⟩
    · rw [if_neg g1, if_neg g2]
      go_enter Try.func38, Try.ntmps38
      go_wp2
      go_ret
      exact ⟨⟨_, 0, 2, rfl, HO.out.mono HK.out.size, by omega⟩, HK.out.trans (HB.out.mono HK.out.size)⟩

end Go.Proofs.Ytlnmdepaobocnaa

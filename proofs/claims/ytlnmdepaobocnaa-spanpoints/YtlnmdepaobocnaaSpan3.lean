/- The program's spans: Right, ahead, common. No statement is proved here. -/
import Derived.Test.YtlnmdepaobocnaaSpan1
namespace Go.Proofs.Ytlnmdepaobocnaa
open Go.ChangeShapes Go.WideShapes Go.ChangeAt Go.RowKit
set_option linter.unusedVariables false
set_option linter.unusedSimpArgs false

/-- A span's value. -/
abbrev spV (s : Sp) : Value := .agg #[.int .i64 s.1, .int .i64 s.2.1, .int .i64 s.2.2]

theorem pright12 (s : Sp) (b : Bool) (w : World) (hb : b = true ↔ rightS s) :
    Calls Try.prog 11 #[.agg #[.int .i64 s.1, .int .i64 s.2.1, .int .i64 s.2.2]] w fun e w' => e = .returned (.bool b) ∧ Below w.heap.size w w' := by
  obtain ⟨t, f, u⟩ := s
  unfold rightS at hb
  dsimp only at hb ⊢
  have hk : Below w.heap.size w (w.alloc (.cells #[.int .i64 t, .int .i64 f, .int .i64 u] 23)) := (Below.refl _ _).alloc (Nat.le_refl _) _
  have HK := Lib.hid hk
  have HB := Lib.hid hb
  clear hk hb
  by_cases h1 : 0 ≤ t
  · by_cases h2 : t ≤ 3
    · by_cases h3 : 0 ≤ f
      · by_cases h5 : f < u
        · by_cases h4 : u ≤ 65536
          · obtain rfl : b = true := HB.out.2 ⟨h1, h2, h3, h4, h5⟩
            go_enter Try.func11, Try.ntmps11
            go_wp2
            go_ret
            exact ⟨rfl, HK.out⟩
          · obtain rfl : b = false := Bool.eq_false_iff.2 fun h => h4 (HB.out.1 h).2.2.2.1
            go_enter Try.func11, Try.ntmps11
            go_wp2
            go_ret
            exact ⟨rfl, HK.out⟩
        · obtain rfl : b = false := Bool.eq_false_iff.2 fun h => h5 (HB.out.1 h).2.2.2.2
          go_enter Try.func11, Try.ntmps11
          go_wp2
          go_ret
          exact ⟨rfl, HK.out⟩
      · obtain rfl : b = false := Bool.eq_false_iff.2 fun h => h3 (HB.out.1 h).2.2.1
        go_enter Try.func11, Try.ntmps11
        go_wp2
        go_ret
        exact ⟨rfl, HK.out⟩
    · obtain rfl : b = false := Bool.eq_false_iff.2 fun h => h2 (HB.out.1 h).2.1
      go_enter Try.func11, Try.ntmps11
      go_wp2
      go_ret
      exact ⟨rfl, HK.out⟩
  · obtain rfl : b = false := Bool.eq_false_iff.2 fun h => h1 (HB.out.1 h).1
    go_enter Try.func11, Try.ntmps11
    go_wp2
    go_ret
    exact ⟨rfl, HK.out⟩

theorem ahead_any (x s : Sp) (b : Bool) (w : World) (hb : b = true ↔ ltS x s) :
    Calls Try.prog 34 #[.agg #[.int .i64 x.1, .int .i64 x.2.1, .int .i64 x.2.2], .agg #[.int .i64 s.1, .int .i64 s.2.1, .int .i64 s.2.2]] w fun e w' => e = .returned (.bool b) ∧ Below w.heap.size w w' := by
  obtain ⟨t, f, u⟩ := x
  obtain ⟨t', f', u'⟩ := s
  unfold ltS at hb
  dsimp only at hb ⊢
  have hk : Below w.heap.size w ((w.alloc (.cells #[.int .i64 t, .int .i64 f, .int .i64 u] 23)).alloc (.cells #[.int .i64 t', .int .i64 f', .int .i64 u'] 23)) := ((Below.refl _ _).alloc (Nat.le_refl _) _).alloc (by simp) _
  have HK := Lib.hid hk
  have HB := Lib.hid hb
  clear hk hb
  by_cases h1 : t = t'
  · subst h1
    by_cases h2 : u < f'
    · obtain rfl : b = true := HB.out.2 (.inr ⟨rfl, h2⟩)
      go_enter Try.func34, Try.ntmps34
      go_wp2
      go_ret
      exact ⟨rfl, HK.out⟩
    · obtain rfl : b = false := Bool.eq_false_iff.2 fun h => by rcases HB.out.1 h with h | h <;> omega
      go_enter Try.func34, Try.ntmps34
      go_wp2
      go_ret
      exact ⟨rfl, HK.out⟩
  · by_cases h2 : t < t'
    · obtain rfl : b = true := HB.out.2 (.inl h2)
      go_enter Try.func34, Try.ntmps34
      go_wp2
      go_ret
      exact ⟨rfl, HK.out⟩
    · obtain rfl : b = false := Bool.eq_false_iff.2 fun h => by rcases HB.out.1 h with h | h <;> omega
      go_enter Try.func34, Try.ntmps34
      go_wp2
      go_ret
      exact ⟨rfl, HK.out⟩

/-- What two spans of one table share, or nought. -/
def comS (x s : Sp) : Sp := if max x.2.1 s.2.1 < min x.2.2 s.2.2 then (x.1, max x.2.1 s.2.1, min x.2.2 s.2.2) else sp0
theorem four_boxes (w : World) (a b c d : Array Value) (T : TypeId) : ∃ W, (((w.alloc (.cells a T)).alloc (.cells b T)).alloc (.cells c T)).alloc (.cells d T) = W ∧ Below w.heap.size w W ∧ WholeV W (w.heap.size + 1 + 1) T c.toList := by
  have hb2 : Below w.heap.size w ((w.alloc (.cells a T)).alloc (.cells b T)) := ((Below.refl _ _).alloc (Nat.le_refl _) _).alloc (by simp) _
  have h0 : WholeV (((w.alloc (.cells a T)).alloc (.cells b T)).alloc (.cells c T)) ((w.alloc (.cells a T)).alloc (.cells b T)).heap.size T c.toList := heap_alloc_new _ _
  have hs : ((w.alloc (.cells a T)).alloc (.cells b T)).heap.size = w.heap.size + 1 + 1 := by simp
  rw [hs] at h0
  have hb3 := hb2.alloc (hb2.size) (.cells c T)
  exact ⟨_, rfl, hb3.alloc hb3.size _, h0.below ((Below.refl _ _).alloc (Nat.le_refl _) _) h0.lt⟩

set_option maxHeartbeats 2000000 in
theorem common_any (x s : Sp) (w : World) :
    Calls Try.prog 39 #[.agg #[.int .i64 x.1, .int .i64 x.2.1, .int .i64 x.2.2], .agg #[.int .i64 s.1, .int .i64 s.2.1, .int .i64 s.2.2]] w fun e w' => e = .returned (spV (comS x s)) ∧ Below w.heap.size w w' := by
  obtain ⟨t, f, u⟩ := x
  obtain ⟨t', f', u'⟩ := s
  dsimp only
  obtain ⟨c, hc⟩ : ∃ c, comS (t, f, u) (t', f', u') = c := ⟨_, rfl⟩
  rw [hc]
  unfold comS at hc
  dsimp only at hc
  by_cases g1 : f < f'
  · by_cases g2 : u' < u
    · by_cases g3 : f' < u'
      · obtain rfl : c = (t, f', u') := by
          rw [← hc]
          rw [if_pos (by omega), show max f f' = f' by omega, show min u u' = u' by omega]
        clear hc
        go_enter Try.func39, Try.ntmps39
        go_wp2
        obtain ⟨W, hW, hb, h0⟩ := four_boxes w #[.int .i64 t, .int .i64 f, .int .i64 u] #[.int .i64 t', .int .i64 f', .int .i64 u'] #[.int .i64 t, .int .i64 f', .int .i64 u'] #[.int .i64 t, .int .i64 f', .int .i64 u'] 23
        have he0 := h0.cell 0
        have he1 := h0.cell 1
        have he2 := h0.cell 2
        rw [hW]
        exact bodyPost_ret (v := .agg #[.int .i64 t, .int .i64 f', .int .i64 u']) (by simp [results, Try.results39, go_sem, he0, he1, he2]) rfl ⟨rfl, hb⟩
      · obtain rfl : c = sp0 := by
          rw [← hc]
          rw [if_neg (by omega)]
        clear hc
        go_enter Try.func39, Try.ntmps39
        go_wp2
        obtain ⟨W, hW, hb, h0⟩ := four_boxes w #[.int .i64 t, .int .i64 f, .int .i64 u] #[.int .i64 t', .int .i64 f', .int .i64 u'] #[.int .i64 0, .int .i64 0, .int .i64 0] #[.int .i64 t, .int .i64 f', .int .i64 u'] 23
        have he0 := h0.cell 0
        have he1 := h0.cell 1
        have he2 := h0.cell 2
        rw [hW]
        exact bodyPost_ret (v := .agg #[.int .i64 0, .int .i64 0, .int .i64 0]) (by simp [results, Try.results39, go_sem, he0, he1, he2]) rfl ⟨rfl, hb⟩
    · by_cases g3 : f' < u
      · obtain rfl : c = (t, f', u) := by
          rw [← hc]
          rw [if_pos (by omega), show max f f' = f' by omega, show min u u' = u by omega]
        clear hc
        go_enter Try.func39, Try.ntmps39
        go_wp2
        obtain ⟨W, hW, hb, h0⟩ := four_boxes w #[.int .i64 t, .int .i64 f, .int .i64 u] #[.int .i64 t', .int .i64 f', .int .i64 u'] #[.int .i64 t, .int .i64 f', .int .i64 u] #[.int .i64 t, .int .i64 f', .int .i64 u] 23
        have he0 := h0.cell 0
        have he1 := h0.cell 1
        have he2 := h0.cell 2
        rw [hW]
        exact bodyPost_ret (v := .agg #[.int .i64 t, .int .i64 f', .int .i64 u]) (by simp [results, Try.results39, go_sem, he0, he1, he2]) rfl ⟨rfl, hb⟩
      · obtain rfl : c = sp0 := by
          rw [← hc]
          rw [if_neg (by omega)]
        clear hc
        go_enter Try.func39, Try.ntmps39
        go_wp2
        obtain ⟨W, hW, hb, h0⟩ := four_boxes w #[.int .i64 t, .int .i64 f, .int .i64 u] #[.int .i64 t', .int .i64 f', .int .i64 u'] #[.int .i64 0, .int .i64 0, .int .i64 0] #[.int .i64 t, .int .i64 f', .int .i64 u] 23
        have he0 := h0.cell 0
        have he1 := h0.cell 1
        have he2 := h0.cell 2
        rw [hW]
        exact bodyPost_ret (v := .agg #[.int .i64 0, .int .i64 0, .int .i64 0]) (by simp [results, Try.results39, go_sem, he0, he1, he2]) rfl ⟨rfl, hb⟩
  · by_cases g2 : u' < u
    · by_cases g3 : f < u'
      · obtain rfl : c = (t, f, u') := by
          rw [← hc]
          rw [if_pos (by omega), show max f f' = f by omega, show min u u' = u' by omega]
        clear hc
        go_enter Try.func39, Try.ntmps39
        go_wp2
        obtain ⟨W, hW, hb, h0⟩ := four_boxes w #[.int .i64 t, .int .i64 f, .int .i64 u] #[.int .i64 t', .int .i64 f', .int .i64 u'] #[.int .i64 t, .int .i64 f, .int .i64 u'] #[.int .i64 t, .int .i64 f, .int .i64 u'] 23
        have he0 := h0.cell 0
        have he1 := h0.cell 1
        have he2 := h0.cell 2
        rw [hW]
        exact bodyPost_ret (v := .agg #[.int .i64 t, .int .i64 f, .int .i64 u']) (by simp [results, Try.results39, go_sem, he0, he1, he2]) rfl ⟨rfl, hb⟩
      · obtain rfl : c = sp0 := by
          rw [← hc]
          rw [if_neg (by omega)]
        clear hc
        go_enter Try.func39, Try.ntmps39
        go_wp2
        obtain ⟨W, hW, hb, h0⟩ := four_boxes w #[.int .i64 t, .int .i64 f, .int .i64 u] #[.int .i64 t', .int .i64 f', .int .i64 u'] #[.int .i64 0, .int .i64 0, .int .i64 0] #[.int .i64 t, .int .i64 f, .int .i64 u'] 23
        have he0 := h0.cell 0
        have he1 := h0.cell 1
        have he2 := h0.cell 2
        rw [hW]
        exact bodyPost_ret (v := .agg #[.int .i64 0, .int .i64 0, .int .i64 0]) (by simp [results, Try.results39, go_sem, he0, he1, he2]) rfl ⟨rfl, hb⟩
    · by_cases g3 : f < u
      · obtain rfl : c = (t, f, u) := by
          rw [← hc]
          rw [if_pos (by omega), show max f f' = f by omega, show min u u' = u by omega]
        clear hc
        go_enter Try.func39, Try.ntmps39
        go_wp2
        obtain ⟨W, hW, hb, h0⟩ := four_boxes w #[.int .i64 t, .int .i64 f, .int .i64 u] #[.int .i64 t', .int .i64 f', .int .i64 u'] #[.int .i64 t, .int .i64 f, .int .i64 u] #[.int .i64 t, .int .i64 f, .int .i64 u] 23
        have he0 := h0.cell 0
        have he1 := h0.cell 1
        have he2 := h0.cell 2
        rw [hW]
        exact bodyPost_ret (v := .agg #[.int .i64 t, .int .i64 f, .int .i64 u]) (by simp [results, Try.results39, go_sem, he0, he1, he2]) rfl ⟨rfl, hb⟩
      · obtain rfl : c = sp0 := by
          rw [← hc]
          rw [if_neg (by omega)]
        clear hc
        go_enter Try.func39, Try.ntmps39
        go_wp2
        obtain ⟨W, hW, hb, h0⟩ := four_boxes w #[.int .i64 t, .int .i64 f, .int .i64 u] #[.int .i64 t', .int .i64 f', .int .i64 u'] #[.int .i64 0, .int .i64 0, .int .i64 0] #[.int .i64 t, .int .i64 f, .int .i64 u] 23
        have he0 := h0.cell 0
        have he1 := h0.cell 1
        have he2 := h0.cell 2
        rw [hW]
        exact bodyPost_ret (v := .agg #[.int .i64 0, .int .i64 0, .int .i64 0]) (by simp [results, Try.results39, go_sem, he0, he1, he2]) rfl ⟨rfl, hb⟩

end Go.Proofs.Ytlnmdepaobocnaa

/- The program's lists of spans: Has, Add, Cut. No statement is proved here. -/
import Derived.Test.YtlnmdepaobocnaaPCov
import Derived.Test.YtlnmdepaobocnaaSpanT
import Derived.Test.YtlnmdepaobocnaaSpanD
namespace Go.Proofs.Ytlnmdepaobocnaa
open Go.ChangeShapes Go.WideShapes Go.ChangeAt Go.RowKit
set_option linter.unusedVariables false
set_option linter.unusedSimpArgs false


set_option maxRecDepth 100000 in
theorem phas_any (A : Option Addr) (n c : Nat) (l : List Sp) (t a : Int) (b : Bool) (w : World) (hl : SL w A n l) (hn : n ≤ 100000) (hnc : n ≤ c) (hc : canonS l) (hb : b = true ↔ hasS l t a) (ha1 : -9223372036854775808 ≤ a) (ha2 : a ≤ 9223372036854775807) :
    Calls Try.prog 26 #[.slice A n c, .agg #[.int .i64 t, .int .i64 a]] w fun e w' => e = .returned (.bool b) ∧ Below w.heap.size w w' := by
  obtain ⟨W, hW⟩ : ∃ W, w.alloc (.cells #[.int .i64 t, .int .i64 a] 39) = W := ⟨_, rfl⟩
  have hk : Below w.heap.size w W := by rw [← hW]; exact (Below.refl _ _).alloc (Nat.le_refl _) _
  have h0 : WholeV W w.heap.size 39 [.int .i64 t, .int .i64 a] := by rw [← hW]; exact heap_alloc_new w _
  have x0 : W.cell? ⟨w.heap.size, 0, none⟩ = some (.int .i64 t) := h0.cell 0
  have x1 : W.cell? ⟨w.heap.size, 1, none⟩ = some (.int .i64 a) := h0.cell 1
  have HK := Lib.hid hk
  by_cases hmx : a = 9223372036854775807
  · subst hmx
    have hcc := (pcovers_any A n c l t 9223372036854775807 (-9223372036854775808) b W (hl.below hk) hn hnc hc (.inr ⟨Bool.eq_false_iff.2 fun h => by
      obtain ⟨x, hx, q1, q2, q3⟩ := hb.1 h
      have := canonS_right hc x hx
      unfold rightS at this
      omega, fun x hx => by
      have := canonS_right hc x hx
      unfold rightS at this
      unfold ltS
      dsimp only
      omega⟩))
    have ew : wrap64 9223372036854775808 = -9223372036854775808 := by decide +kernel
    rw [← ew] at hcc
    have CC := Lib.hid hcc
    clear hk h0 hl hb hcc ew ha1 ha2
    go_enter Try.func26, Try.ntmps26
    go_wp2_with (first
      | (go_at_call 28
         (with_reducible refine CC.out.mono ?_)
         rintro e w2 ⟨rfl, hb2⟩
         have HB2 := Lib.hid (HK.out.trans (hb2.mono HK.out.size))
         clear hb2))
    all_goals go_ret
    all_goals exact ⟨rfl, HB2.out⟩
  · have hmx2 : a ≤ 9223372036854775806 := by omega
    have CC := Lib.hid (pcovers_any A n c l t a (a + 1) b W (hl.below hk) hn hnc hc (.inl ⟨by omega, by rw [hb]; exact has_covers l t a⟩))
    clear hk h0 hl hb
    go_enter Try.func26, Try.ntmps26
    go_wp2_with (first
      | (go_at_call 28
         (with_reducible refine CC.out.mono ?_)
         rintro e w2 ⟨rfl, hb2⟩
         have HB2 := Lib.hid (HK.out.trans (hb2.mono HK.out.size))
         clear hb2))
    all_goals go_ret
    all_goals exact ⟨rfl, HB2.out⟩

/-- stretch of a part of a list. -/
theorem stretch_part (A : Option Addr) (m c : Nat) (l : List Sp) (s : Sp) (w : World) (hl : SL w A m l) (hm : m ≤ 100000) :
    Calls Try.prog 37 #[.agg #[.int .i64 s.1, .int .i64 s.2.1, .int .i64 s.2.2], .slice A m c] w fun e w' => e = .returned (spV (strS s l)) ∧ Below w.heap.size w w' := by
  obtain ⟨t, f, u⟩ := s
  cases m with
  | zero =>
    obtain rfl : l = [] := List.eq_nil_of_length_eq_zero hl.len
    exact stretch_none A c t f u w
  | succ m => exact stretch_some A m c l t f u w hl (by omega)

set_option maxRecDepth 100000 in
set_option maxHeartbeats 4000000 in
theorem padd_any (A : Option Addr) (n c : Nat) (l : List Sp) (t f u : Int) (w : World) (hl : SL w A n l) (hn : n ≤ 100000) (hnc : n ≤ c) (hc : canonS l) (hs : rightS (t, f, u)) :
    Calls Try.prog 20 #[.slice A n c, .agg #[.int .i64 t, .int .i64 f, .int .i64 u]] w fun e w' => (∃ B m d, e = .returned (.slice B m d) ∧ SO w' w.heap.size (.slice B m d) m (addS l (t, f, u))) ∧ Below w.heap.size w w' := by
  obtain ⟨W, hW⟩ : ∃ W, w.alloc (.cells #[.int .i64 t, .int .i64 f, .int .i64 u] 23) = W := ⟨_, rfl⟩
  have hk : Below w.heap.size w W := by rw [← hW]; exact (Below.refl _ _).alloc (Nat.le_refl _) _
  have h0 : WholeV W w.heap.size 23 [.int .i64 t, .int .i64 f, .int .i64 u] := by rw [← hW]; exact heap_alloc_new w _
  have x0 : W.cell? ⟨w.heap.size, 0, none⟩ = some (.int .i64 t) := h0.cell 0
  have x1 : W.cell? ⟨w.heap.size, 1, none⟩ = some (.int .i64 f) := h0.cell 1
  have x2 : W.cell? ⟨w.heap.size, 2, none⟩ = some (.int .i64 u) := h0.cell 2
  have CN := Lib.hid (near_any A n c l t f u W (hl.below hk) hn hc)
  have HK := Lib.hid hk
  have HL := Lib.hid hl
  have HLT := Lib.hid h0.lt
  have HN := Lib.hid hl.len
  have HC := Lib.hid hc
  have HS := Lib.hid hs
  clear hk h0 hl hc hs
  go_enter Try.func20, Try.ntmps20
  go_wp2_with (first
    | (go_at_call 35
       (with_reducible refine CN.out.mono ?_)
       rintro e w1 ⟨⟨i, j, rfl, hnear⟩, hb1⟩
       have hle := hnear.le
       have y0 := (hb1.cell (p := ⟨w.heap.size, 0, none⟩) HLT.out).trans x0
       have y1 := (hb1.cell (p := ⟨w.heap.size, 1, none⟩) HLT.out).trans x1
       have y2 := (hb1.cell (p := ⟨w.heap.size, 2, none⟩) HLT.out).trans x2
       have HB1 := Lib.hid (HK.out.trans (hb1.mono HK.out.size))
       have HNE := Lib.hid hnear
       have HS1 : Hid (w.heap.size < w1.heap.size) := Nat.lt_of_lt_of_le HLT.out hb1.size
       have hij : i ≤ j := hle.1
       have hjn : j ≤ n := HN.out ▸ hle.2
       have hij' : (i : Int) ≤ (j : Int) := by omega
       have hjn' : (j : Int) ≤ (c : Int) := by omega
       clear hb1 hnear hle))
  by_cases hci : c = i
  · have hpart := (HL.out.below HB1.out.drew).part (c := c) i j hij hjn hnc
    rw [if_pos hci] at hpart
    obtain ⟨⟨zt, zf, zu⟩, hz⟩ : ∃ z, strS (t, f, u) ((l.drop i).take (j - i)) = z := ⟨_, rfl⟩
    have cs := stretch_part _ (j - i) 0 _ (t, f, u) w1.drew hpart (by omega)
    rw [hz] at cs
    have CS : Hid (Calls Try.prog 37 #[.agg #[.int .i64 t, .int .i64 f, .int .i64 u], .slice A (j - i) 0] w1.drew fun e w' => e = .returned (.agg #[.int .i64 zt, .int .i64 zf, .int .i64 zu]) ∧ Below w1.drew.heap.size w1.drew w') := Lib.hid cs
    have HZ := Lib.hid hz
    clear hpart cs hz
    subst hci
    go_region_with (first
      | (go_at_call 37
         (with_reducible refine CS.out.mono ?_)
         rintro e w2 ⟨rfl, hb2⟩
         have hb2' := below_from (d := 1) hb2
         have HB2 := Lib.hid (HB1.out.trans (hb2'.mono HB1.out.size))
         have g0 := (hb2'.cell (p := ⟨w.heap.size, 0, none⟩) HS1.out).trans y0
         have g1 := (hb2'.cell (p := ⟨w.heap.size, 1, none⟩) HS1.out).trans y1
         have g2 := (hb2'.cell (p := ⟨w.heap.size, 2, none⟩) HS1.out).trans y2
         clear hb2 hb2')
      | (go_at_call 36
         (with_reducible refine (swap_any A _ n c 1 1 c j l [(zt, zf, zu)] _ (HL.out.below (HB2.out.alloc HB2.out.size _)) (sl_one w2 zt zf zu _) hij hjn hnc hn (by omega)).mono ?_)
         rintro e w3 ⟨⟨B, m, d, rfl, ho⟩, hb3⟩
         have hb2a := HB2.out.alloc HB2.out.size (.cells #[.int .i64 zt, .int .i64 zf, .int .i64 zu] 23)
         have HB3 := Lib.hid (hb2a.trans (hb3.mono hb2a.size))
         have HO3 := Lib.hid (ho.mono hb2a.size)
         clear ho hb3 hb2a))
    all_goals go_wp2
    all_goals go_ret
    all_goals
      have hq := HO3.out
      rw [← HZ.out, near_add HC.out HS.out HNE.out] at hq
      exact ⟨⟨B, m, d, rfl, hq⟩, HB3.out⟩
  · have hpart := (HL.out.below HB1.out.drew).part (c := c) i j hij hjn hnc
    rw [if_neg hci] at hpart
    obtain ⟨⟨zt, zf, zu⟩, hz⟩ : ∃ z, strS (t, f, u) ((l.drop i).take (j - i)) = z := ⟨_, rfl⟩
    have cs := stretch_part _ (j - i) (c - i) _ (t, f, u) w1.drew hpart (by omega)
    rw [hz] at cs
    have CS : Hid (Calls Try.prog 37 #[.agg #[.int .i64 t, .int .i64 f, .int .i64 u], .slice (Option.map (fun x => x.add (i * 3)) A) (j - i) (c - i)] w1.drew fun e w' => e = .returned (.agg #[.int .i64 zt, .int .i64 zf, .int .i64 zu]) ∧ Below w1.drew.heap.size w1.drew w') := Lib.hid cs
    have HZ := Lib.hid hz
    clear hpart cs hz
    go_region_with (first
      | (go_at_call 37
         (with_reducible refine CS.out.mono ?_)
         rintro e w2 ⟨rfl, hb2⟩
         have hb2' := below_from (d := 1) hb2
         have HB2 := Lib.hid (HB1.out.trans (hb2'.mono HB1.out.size))
         have g0 := (hb2'.cell (p := ⟨w.heap.size, 0, none⟩) HS1.out).trans y0
         have g1 := (hb2'.cell (p := ⟨w.heap.size, 1, none⟩) HS1.out).trans y1
         have g2 := (hb2'.cell (p := ⟨w.heap.size, 2, none⟩) HS1.out).trans y2
         clear hb2 hb2')
      | (go_at_call 36
         (with_reducible refine (swap_any A _ n c 1 1 i j l [(zt, zf, zu)] _ (HL.out.below (HB2.out.alloc HB2.out.size _)) (sl_one w2 zt zf zu _) hij hjn hnc hn (by omega)).mono ?_)
         rintro e w3 ⟨⟨B, m, d, rfl, ho⟩, hb3⟩
         have hb2a := HB2.out.alloc HB2.out.size (.cells #[.int .i64 zt, .int .i64 zf, .int .i64 zu] 23)
         have HB3 := Lib.hid (hb2a.trans (hb3.mono hb2a.size))
         have HO3 := Lib.hid (ho.mono hb2a.size)
         clear ho hb3 hb2a))
    all_goals go_wp2
    all_goals go_ret
    all_goals
      have hq := HO3.out
      rw [← HZ.out, near_add HC.out HS.out HNE.out] at hq
      exact ⟨⟨B, m, d, rfl, hq⟩, HB3.out⟩

set_option maxRecDepth 100000 in
set_option maxHeartbeats 4000000 in
theorem pcut_any (A : Option Addr) (n c : Nat) (l : List Sp) (t f u : Int) (w : World) (hl : SL w A n l) (hn : n ≤ 100000) (hnc : n ≤ c) (hc : canonS l) (hs : rightS (t, f, u)) :
    Calls Try.prog 21 #[.slice A n c, .agg #[.int .i64 t, .int .i64 f, .int .i64 u]] w fun e w' => (∃ B m d, e = .returned (.slice B m d) ∧ SO w' w.heap.size (.slice B m d) m (cutS l (t, f, u))) ∧ Below w.heap.size w w' := by
  obtain ⟨W, hW⟩ : ∃ W, w.alloc (.cells #[.int .i64 t, .int .i64 f, .int .i64 u] 23) = W := ⟨_, rfl⟩
  have hk : Below w.heap.size w W := by rw [← hW]; exact (Below.refl _ _).alloc (Nat.le_refl _) _
  have h0 : WholeV W w.heap.size 23 [.int .i64 t, .int .i64 f, .int .i64 u] := by rw [← hW]; exact heap_alloc_new w _
  have x0 : W.cell? ⟨w.heap.size, 0, none⟩ = some (.int .i64 t) := h0.cell 0
  have x1 : W.cell? ⟨w.heap.size, 1, none⟩ = some (.int .i64 f) := h0.cell 1
  have x2 : W.cell? ⟨w.heap.size, 2, none⟩ = some (.int .i64 u) := h0.cell 2
  have CN := Lib.hid (near_any A n c l t f u W (hl.below hk) hn hc)
  have HK := Lib.hid hk
  have HL := Lib.hid hl
  have HLT := Lib.hid h0.lt
  have HN := Lib.hid hl.len
  have HC := Lib.hid hc
  have HS := Lib.hid hs
  clear hk h0 hl hc hs
  go_enter Try.func21, Try.ntmps21
  go_wp2_with (first
    | (go_at_call 35
       (with_reducible refine CN.out.mono ?_)
       rintro e w1 ⟨⟨i, j, rfl, hnear⟩, hb1⟩
       have hle := hnear.le
       have y0 := (hb1.cell (p := ⟨w.heap.size, 0, none⟩) HLT.out).trans x0
       have y1 := (hb1.cell (p := ⟨w.heap.size, 1, none⟩) HLT.out).trans x1
       have y2 := (hb1.cell (p := ⟨w.heap.size, 2, none⟩) HLT.out).trans x2
       have HB1 := Lib.hid (HK.out.trans (hb1.mono HK.out.size))
       have HNE := Lib.hid hnear
       have HS1 : Hid (w.heap.size < w1.heap.size) := Nat.lt_of_lt_of_le HLT.out hb1.size
       have hij : i ≤ j := hle.1
       have hjn : j ≤ n := HN.out ▸ hle.2
       have hij' : (i : Int) ≤ (j : Int) := by omega
       have hjn' : (j : Int) ≤ (c : Int) := by omega
       clear hb1 hnear hle))
  by_cases hci : c = i
  · have hpart := (HL.out.below HB1.out.drew).part (c := c) i j hij hjn hnc
    rw [if_pos hci] at hpart
    obtain ⟨⟨zt, zf, zu⟩, hz⟩ : ∃ z, strS (t, f, u) ((l.drop i).take (j - i)) = z := ⟨_, rfl⟩
    have cs := stretch_part _ (j - i) 0 _ (t, f, u) w1.drew hpart (by omega)
    rw [hz] at cs
    have CS : Hid (Calls Try.prog 37 #[.agg #[.int .i64 t, .int .i64 f, .int .i64 u], .slice A (j - i) 0] w1.drew fun e w' => e = .returned (.agg #[.int .i64 zt, .int .i64 zf, .int .i64 zu]) ∧ Below w1.drew.heap.size w1.drew w') := Lib.hid cs
    have HZ := Lib.hid hz
    clear hpart cs hz
    subst hci
    go_region_with (first
      | (go_at_call 37
         (with_reducible refine CS.out.mono ?_)
         rintro e w2 ⟨rfl, hb2⟩
         have hb2' := below_from (d := 1) hb2
         have HB2 := Lib.hid (HB1.out.trans (hb2'.mono HB1.out.size))
         have g0 := (hb2'.cell (p := ⟨w.heap.size, 0, none⟩) HS1.out).trans y0
         have g1 := (hb2'.cell (p := ⟨w.heap.size, 1, none⟩) HS1.out).trans y1
         have g2 := (hb2'.cell (p := ⟨w.heap.size, 2, none⟩) HS1.out).trans y2
         clear hb2 hb2')
      | (go_at_call 38
         (with_reducible refine (sides_any (zt, zf, zu) (t, f, u) w2).mono ?_)
         rintro e w3 ⟨⟨B1, m1, d1, rfl, ho1, hm1⟩, hb3⟩
         have HB3 := Lib.hid (HB2.out.trans (hb3.mono HB2.out.size))
         have HO1 := Lib.hid ho1.sl
         clear ho1 hb3)
      | (go_at_call 36
         (with_reducible refine (swap_any A _ n c m1 d1 c j l (sidS (zt, zf, zu) (t, f, u)) w3 (HL.out.below HB3.out) HO1.out hij hjn hnc hn (by omega)).mono ?_)
         rintro e w4 ⟨⟨B, m, d, rfl, ho⟩, hb4⟩
         have HB4 := Lib.hid (HB3.out.trans (hb4.mono HB3.out.size))
         have HO3 := Lib.hid (ho.mono HB3.out.size)
         clear ho hb4))
    all_goals go_wp2
    all_goals go_ret
    all_goals
      have hq := HO3.out
      rw [← HZ.out, near_cut HC.out HS.out HNE.out] at hq
      exact ⟨⟨B, m, d, rfl, hq⟩, HB4.out⟩
  · have hpart := (HL.out.below HB1.out.drew).part (c := c) i j hij hjn hnc
    rw [if_neg hci] at hpart
    obtain ⟨⟨zt, zf, zu⟩, hz⟩ : ∃ z, strS (t, f, u) ((l.drop i).take (j - i)) = z := ⟨_, rfl⟩
    have cs := stretch_part _ (j - i) (c - i) _ (t, f, u) w1.drew hpart (by omega)
    rw [hz] at cs
    have CS : Hid (Calls Try.prog 37 #[.agg #[.int .i64 t, .int .i64 f, .int .i64 u], .slice (Option.map (fun x => x.add (i * 3)) A) (j - i) (c - i)] w1.drew fun e w' => e = .returned (.agg #[.int .i64 zt, .int .i64 zf, .int .i64 zu]) ∧ Below w1.drew.heap.size w1.drew w') := Lib.hid cs
    have HZ := Lib.hid hz
    clear hpart cs hz
    go_region_with (first
      | (go_at_call 37
         (with_reducible refine CS.out.mono ?_)
         rintro e w2 ⟨rfl, hb2⟩
         have hb2' := below_from (d := 1) hb2
         have HB2 := Lib.hid (HB1.out.trans (hb2'.mono HB1.out.size))
         have g0 := (hb2'.cell (p := ⟨w.heap.size, 0, none⟩) HS1.out).trans y0
         have g1 := (hb2'.cell (p := ⟨w.heap.size, 1, none⟩) HS1.out).trans y1
         have g2 := (hb2'.cell (p := ⟨w.heap.size, 2, none⟩) HS1.out).trans y2
         clear hb2 hb2')
      | (go_at_call 38
         (with_reducible refine (sides_any (zt, zf, zu) (t, f, u) w2).mono ?_)
         rintro e w3 ⟨⟨B1, m1, d1, rfl, ho1, hm1⟩, hb3⟩
         have HB3 := Lib.hid (HB2.out.trans (hb3.mono HB2.out.size))
         have HO1 := Lib.hid ho1.sl
         clear ho1 hb3)
      | (go_at_call 36
         (with_reducible refine (swap_any A _ n c m1 d1 i j l (sidS (zt, zf, zu) (t, f, u)) w3 (HL.out.below HB3.out) HO1.out hij hjn hnc hn (by omega)).mono ?_)
         rintro e w4 ⟨⟨B, m, d, rfl, ho⟩, hb4⟩
         have HB4 := Lib.hid (HB3.out.trans (hb4.mono HB3.out.size))
         have HO3 := Lib.hid (ho.mono HB3.out.size)
         clear ho hb4))
    all_goals go_wp2
    all_goals go_ret
    all_goals
      have hq := HO3.out
      rw [← HZ.out, near_cut HC.out HS.out HNE.out] at hq
      exact ⟨⟨B, m, d, rfl, hq⟩, HB4.out⟩

end Go.Proofs.Ytlnmdepaobocnaa

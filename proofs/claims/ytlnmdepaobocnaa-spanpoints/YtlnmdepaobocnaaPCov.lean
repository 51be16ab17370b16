/- The program's lists of spans: Covers and Meets. No statement is proved here. -/
import Derived.Test.YtlnmdepaobocnaaSpanN
import Derived.Test.YtlnmdepaobocnaaSpanW
import Derived.Test.YtlnmdepaobocnaaSpan2
import Derived.Test.YtlnmdepaobocnaaSpan3
namespace Go.Proofs.Ytlnmdepaobocnaa
open Go.ChangeShapes Go.WideShapes Go.ChangeAt Go.RowKit
set_option linter.unusedVariables false
set_option linter.unusedSimpArgs false

theorem com_covers {x s : Sp} (h : s.2.1 < s.2.2) (ht : x.1 = s.1) : comS x s = s ↔ (x.1 = s.1 ∧ x.2.1 ≤ s.2.1 ∧ s.2.2 ≤ x.2.2) := by
  obtain ⟨a, f, u⟩ := x
  obtain ⟨t, f', u'⟩ := s
  dsimp only at h ht ⊢
  subst ht
  unfold comS sp0
  dsimp only
  constructor
  · intro e
    split at e
    · simp only [Prod.mk.injEq, true_and] at e
      omega
    · simp only [Prod.mk.injEq] at e
      omega
  · rintro ⟨_, h1, h2⟩
    rw [if_pos (by omega), show max f f' = f' by omega, show min u u' = u' by omega]
theorem com_meets {x s : Sp} (hs : s.2.1 < s.2.2) (hx : x.2.1 < x.2.2) (hx0 : 0 ≤ x.2.1) (ht : x.1 = s.1) : comS x s ≠ sp0 ↔ (x.1 = s.1 ∧ x.2.1 < s.2.2 ∧ s.2.1 < x.2.2) := by
  obtain ⟨a, f, u⟩ := x
  obtain ⟨t, f', u'⟩ := s
  dsimp only at hs hx hx0 ht ⊢
  subst ht
  unfold comS sp0
  dsimp only
  constructor
  · intro e
    split at e
    · exact ⟨rfl, by omega, by omega⟩
    · exact absurd rfl e
  · rintro ⟨_, h1, h2⟩
    rw [if_pos (by omega)]
    simp only [ne_eq, Prod.mk.injEq, not_and]
    intro _ h3
    omega

/-- A part of a list of spans. -/
theorem SL.part {w : World} {A : Option Addr} {n c : Nat} {l : List Sp} (h : SL w A n l) (i j : Nat) (hij : i ≤ j) (hjn : j ≤ n) (hnc : n ≤ c) : SL w (if c = i then A else A.map (·.add (i * 3))) (j - i) ((l.drop i).take (j - i)) := by
  have hl := h.len
  refine ⟨by rw [sps_length, List.length_take, List.length_drop]; omega, fun h0 => ?_⟩
  obtain ⟨b, off, hA, hb, hc⟩ := h.src i (j - i) (by omega) (by omega)
  rw [if_neg (by omega)]
  refine ⟨b, off + i * 3, by rw [hA, Option.map_some, add_none], hb, fun k hk => ?_⟩
  have hk' : k < (sps ((l.drop i).take (j - i))).length := by rw [sps_length, List.length_take, List.length_drop]; omega
  rw [hc k _ (List.getElem?_eq_getElem hk'), ← List.getElem?_eq_getElem hk']

set_option maxRecDepth 100000 in
set_option maxHeartbeats 4000000 in
theorem pcovers_any (A : Option Addr) (n c : Nat) (l : List Sp) (t f u : Int) (b : Bool) (w : World) (hl : SL w A n l) (hn : n ≤ 100000) (hnc : n ≤ c) (hc : canonS l) (hb : (f < u ∧ (b = true ↔ coversS l (t, f, u))) ∨ (b = false ∧ ∀ x ∈ l, ltS x (t, f, u) ∨ ltS (t, f, u) x)) :
    Calls Try.prog 28 #[.slice A n c, .agg #[.int .i64 t, .int .i64 f, .int .i64 u]] w fun e w' => e = .returned (.bool b) ∧ Below w.heap.size w w' := by
  obtain ⟨W, hW⟩ : ∃ W, w.alloc (.cells #[.int .i64 t, .int .i64 f, .int .i64 u] 23) = W := ⟨_, rfl⟩
  have hk : Below w.heap.size w W := by rw [← hW]; exact (Below.refl _ _).alloc (Nat.le_refl _) _
  have h0 : WholeV W w.heap.size 23 [.int .i64 t, .int .i64 f, .int .i64 u] := by rw [← hW]; exact heap_alloc_new w _
  have x0 : W.cell? ⟨w.heap.size, 0, none⟩ = some (.int .i64 t) := h0.cell 0
  have x1 : W.cell? ⟨w.heap.size, 1, none⟩ = some (.int .i64 f) := h0.cell 1
  have x2 : W.cell? ⟨w.heap.size, 2, none⟩ = some (.int .i64 u) := h0.cell 2
  have hlW := hl.below hk
  have CN := Lib.hid (near_any A n c l t f u W hlW hn hc)
  have HK := Lib.hid hk
  have HL := Lib.hid hl
  have HLT := Lib.hid h0.lt
  have HB := Lib.hid hb
  have HN := Lib.hid hl.len
  clear hk h0 hl hb hlW
  go_enter Try.func28, Try.ntmps28
  go_wp2_with (first
    | (go_at_call 35
       (with_reducible refine CN.out.mono ?_)
       rintro e w1 ⟨⟨i, j, rfl, hnear⟩, hb1⟩
       have hle := hnear.le
       have y0 := (hb1.cell (p := ⟨w.heap.size, 0, none⟩) HLT.out).trans x0
       have y1 := (hb1.cell (p := ⟨w.heap.size, 1, none⟩) HLT.out).trans x1
       have y2 := (hb1.cell (p := ⟨w.heap.size, 2, none⟩) HLT.out).trans x2
       have HB1 := Lib.hid (HK.out.trans (hb1.mono HK.out.size))
       have HNE := Lib.hid hnear
       have HS1 : Hid (w.heap.size < w1.heap.size) := Nat.lt_of_lt_of_le HLT.out hb1.size
       have hij : i ≤ j := hle.1
       have hjn : j ≤ n := HN.out ▸ hle.2
       have hij' : (i : Int) ≤ (j : Int) := by omega
       have hjn' : (j : Int) ≤ (c : Int) := by omega
       have hcb : (c : Int) ≤ (c : Int) := by omega
       clear hb1 hnear hle))
  all_goals
    have HP := (HL.out.below HB1.out).part (c := c) i j hij hjn hnc
    first | rw [if_pos h] at HP | rw [if_neg h] at HP
    try generalize Option.map (fun x => x.add (i * 3)) A = A2 at HP ⊢
    obtain ⟨m, hm⟩ : ∃ m, (l.drop i).take (j - i) = m := ⟨_, rfl⟩
    obtain ⟨q, hq⟩ : ∃ q, j - i = q := ⟨_, rfl⟩
    rw [hm] at HP
    rw [hq] at HP ⊢
    have hqn : q ≤ 100000 := by omega
    have hbm : (b = true ↔ coversS m (t, f, u)) ∧ (f < u ∨ m = []) := by
      rcases HB.out with ⟨h, h'⟩ | ⟨h, h'⟩
      · exact ⟨by rw [h', ← hm]; exact near_covers h HNE.out, .inl h⟩
      · have hm0 : m = [] := List.eq_nil_iff_forall_not_mem.2 fun x hx => by
          have q1 := HNE.out.mid x (hm ▸ hx)
          rcases h' x (List.mem_of_mem_drop (List.mem_of_mem_take (hm ▸ hx))) with q2 | q2
          · exact q1.1 q2
          · exact q1.2 q2
        subst hm0
        exact ⟨by rw [h]; simp [coversS], .inr rfl⟩
    have HBm := Lib.hid hbm.1
    have HV := Lib.hid hbm.2
    clear hbm
    have HMid : Hid (∀ x ∈ m, x.1 = t) := Lib.hid fun x hx => (mid_table (HNE.out.mid x (hm ▸ hx))).1
    have HLm := Lib.hid HP
    have HNm := Lib.hid HP.len
    have HMM := Lib.hid hm
    clear HP hm hq
    go_loopw [20] (fun i wr => ∃ k : Nat, k ≤ q ∧ i = .int .i64 (k : Int) ∧ Hid (Below w1.heap.size w1 wr) ∧ Hid (¬ coversS (m.take k) (t, f, u))) (fun i _ => q - (intOf i).toNat)
    case atStart => exact ⟨0, by omega, rfl, Lib.hid (Below.refl _ _), Lib.hid fun ⟨x, hx, _⟩ => by cases hx⟩
    case round =>
      obtain ⟨k, hkq, rfl, HR, HI⟩ := hrel
      by_cases hlt : k < q
      · have hlt' : (k : Int) < (q : Int) := by omega
        have hk0 : (0 : Int) ≤ (k : Int) := by omega
        obtain ⟨b0, off, rfl, hbs, c0, c1, c2⟩ := (HLm.out.below HR.out).at_ k hlt
        have hkl : k < m.length := by rw [HNm.out]; exact hlt
        have HT := Lib.hid (getD_take_succ m k hkl)
        have HM := Lib.hid (getD_mem m k hkl)
        obtain ⟨s, hs⟩ : ∃ s, m.getD k sp0 = s := ⟨_, rfl⟩
        rw [hs] at HT HM c0 c1 c2
        obtain ⟨st, sf, su⟩ := s
        obtain rfl : st = t := HMid.out _ HM.out
        dsimp only at c0 c1 c2
        clear hs
        have z0 := (HR.out.cell (p := ⟨w.heap.size, 0, none⟩) HS1.out).trans y0
        have z1 := (HR.out.cell (p := ⟨w.heap.size, 1, none⟩) HS1.out).trans y1
        have z2 := (HR.out.cell (p := ⟨w.heap.size, 2, none⟩) HS1.out).trans y2
        obtain ⟨⟨ct, cf, cu⟩, hcm⟩ : ∃ r, comS (st, sf, su) (st, f, u) = r := ⟨_, rfl⟩
        have CC : Hid (∀ X, Calls Try.prog 39 #[.agg #[.int .i64 st, .int .i64 sf, .int .i64 su], .agg #[.int .i64 st, .int .i64 f, .int .i64 u]] X fun e w' => e = .returned (.agg #[.int .i64 ct, .int .i64 cf, .int .i64 cu]) ∧ Below X.heap.size X w') := Lib.hid fun X => by
          have := common_any (st, sf, su) (st, f, u) X
          rw [hcm] at this
          exact this
        have HCM := Lib.hid hcm
        clear hcm
        have HYES : Hid (((ct, cf, cu) : Sp) = (st, f, u) → b = true) := Lib.hid fun h => by
          rcases HV.out with hfu | hl0
          · have := (com_covers (x := (st, sf, su)) (s := (st, f, u)) hfu rfl).1 (HCM.out.trans h)
            exact HBm.out.2 ⟨_, HM.out, this⟩
          · exact absurd HM.out (by rw [hl0]; simp)
        have HNO : Hid (¬ ((ct, cf, cu) : Sp) = (st, f, u) → ¬ coversS (m.take (k + 1)) (st, f, u)) := Lib.hid fun h => by
          rw [HT.out]
          rintro ⟨x, hx, hq⟩
          rcases List.mem_append.1 hx with hx | hx
          · exact HI.out ⟨x, hx, hq⟩
          · obtain rfl := List.mem_singleton.1 hx
            rcases HV.out with hfu | hl0
            · exact h (HCM.out.symm.trans ((com_covers (x := (st, sf, su)) (s := (st, f, u)) hfu rfl).2 hq))
            · exact absurd HM.out (by rw [hl0]; simp)
        by_cases h1 : ct = st
        · by_cases h2 : cf = f
          · by_cases h3 : cu = u
            · have h1' := h1.symm
              have h2' := h2.symm
              have h3' := h3.symm
              subst h1' h2' h3'
              obtain rfl : b = true := HYES.out rfl
              go_wp2
              obtain ⟨V, hV⟩ : ∃ V, wr.alloc (.cells #[.int .i64 st, .int .i64 sf, .int .i64 su] 23) = V := ⟨_, rfl⟩
              have hbV : Below wr.heap.size wr V := by rw [← hV]; exact (Below.refl _ _).alloc (Nat.le_refl _) _
              have hwV : WholeV V wr.heap.size 23 [.int .i64 st, .int .i64 sf, .int .i64 su] := by rw [← hV]; exact heap_alloc_new wr _
              have a0 : V.cell? ⟨wr.heap.size, 0, none⟩ = some (.int .i64 st) := hwV.cell 0
              have a1 : V.cell? ⟨wr.heap.size, 1, none⟩ = some (.int .i64 sf) := hwV.cell 1
              have a2 : V.cell? ⟨wr.heap.size, 2, none⟩ = some (.int .i64 su) := hwV.cell 2
              have hRs : w.heap.size < wr.heap.size := Nat.lt_of_lt_of_le HS1.out HR.out.size
              have v0 := (hbV.cell (p := ⟨w.heap.size, 0, none⟩) hRs).trans z0
              have v1 := (hbV.cell (p := ⟨w.heap.size, 1, none⟩) hRs).trans z1
              have v2 := (hbV.cell (p := ⟨w.heap.size, 2, none⟩) hRs).trans z2
              have HVV := Lib.hid (HR.out.trans (hbV.mono HR.out.size))
              have HSV : Hid (w.heap.size < V.heap.size) := Nat.lt_of_lt_of_le hRs hbV.size
              rw [hV]
              clear hV hbV hwV hRs
              go_region_with (first
                | (go_at_call 39
                   (with_reducible refine (CC.out _).mono ?_)
                   rintro e w2 ⟨rfl, hb2⟩
                   have hb2' := below_from (d := 1) hb2
                   have u0 := (hb2'.cell (p := ⟨w.heap.size, 0, none⟩) HSV.out).trans v0
                   have u1 := (hb2'.cell (p := ⟨w.heap.size, 1, none⟩) HSV.out).trans v1
                   have u2 := (hb2'.cell (p := ⟨w.heap.size, 2, none⟩) HSV.out).trans v2
                   have HR2 := Lib.hid (HVV.out.trans (hb2'.mono HVV.out.size))
                   clear hb2 hb2'))
              all_goals go_wp2
              all_goals
                go_ret
                exact ⟨rfl, HB1.out.trans (HR2.out.mono HB1.out.size)⟩
            · have HNE2 : Hid (¬ ((ct, cf, cu) : Sp) = (st, f, u)) := Lib.hid fun h => by simp only [Prod.mk.injEq] at h; omega
              go_wp2
              obtain ⟨V, hV⟩ : ∃ V, wr.alloc (.cells #[.int .i64 st, .int .i64 sf, .int .i64 su] 23) = V := ⟨_, rfl⟩
              have hbV : Below wr.heap.size wr V := by rw [← hV]; exact (Below.refl _ _).alloc (Nat.le_refl _) _
              have hwV : WholeV V wr.heap.size 23 [.int .i64 st, .int .i64 sf, .int .i64 su] := by rw [← hV]; exact heap_alloc_new wr _
              have a0 : V.cell? ⟨wr.heap.size, 0, none⟩ = some (.int .i64 st) := hwV.cell 0
              have a1 : V.cell? ⟨wr.heap.size, 1, none⟩ = some (.int .i64 sf) := hwV.cell 1
              have a2 : V.cell? ⟨wr.heap.size, 2, none⟩ = some (.int .i64 su) := hwV.cell 2
              have hRs : w.heap.size < wr.heap.size := Nat.lt_of_lt_of_le HS1.out HR.out.size
              have v0 := (hbV.cell (p := ⟨w.heap.size, 0, none⟩) hRs).trans z0
              have v1 := (hbV.cell (p := ⟨w.heap.size, 1, none⟩) hRs).trans z1
              have v2 := (hbV.cell (p := ⟨w.heap.size, 2, none⟩) hRs).trans z2
              have HVV := Lib.hid (HR.out.trans (hbV.mono HR.out.size))
              have HSV : Hid (w.heap.size < V.heap.size) := Nat.lt_of_lt_of_le hRs hbV.size
              rw [hV]
              clear hV hbV hwV hRs
              go_region_with (first
                | (go_at_call 39
                   (with_reducible refine (CC.out _).mono ?_)
                   rintro e w2 ⟨rfl, hb2⟩
                   have hb2' := below_from (d := 1) hb2
                   have u0 := (hb2'.cell (p := ⟨w.heap.size, 0, none⟩) HSV.out).trans v0
                   have u1 := (hb2'.cell (p := ⟨w.heap.size, 1, none⟩) HSV.out).trans v1
                   have u2 := (hb2'.cell (p := ⟨w.heap.size, 2, none⟩) HSV.out).trans v2
                   have HR2 := Lib.hid (HVV.out.trans (hb2'.mono HVV.out.size))
                   clear hb2 hb2'))
              all_goals go_wp2
              all_goals
                exact ⟨⟨k + 1, by omega, by go_num, HR2, Lib.hid (HNO.out HNE2.out)⟩, by simp [intOf]; omega⟩
          · have HNE2 : Hid (¬ ((ct, cf, cu) : Sp) = (st, f, u)) := Lib.hid fun h => by simp only [Prod.mk.injEq] at h; omega
            go_wp2
            obtain ⟨V, hV⟩ : ∃ V, wr.alloc (.cells #[.int .i64 st, .int .i64 sf, .int .i64 su] 23) = V := ⟨_, rfl⟩
            have hbV : Below wr.heap.size wr V := by rw [← hV]; exact (Below.refl _ _).alloc (Nat.le_refl _) _
            have hwV : WholeV V wr.heap.size 23 [.int .i64 st, .int .i64 sf, .int .i64 su] := by rw [← hV]; exact heap_alloc_new wr _
            have a0 : V.cell? ⟨wr.heap.size, 0, none⟩ = some (.int .i64 st) := hwV.cell 0
            have a1 : V.cell? ⟨wr.heap.size, 1, none⟩ = some (.int .i64 sf) := hwV.cell 1
            have a2 : V.cell? ⟨wr.heap.size, 2, none⟩ = some (.int .i64 su) := hwV.cell 2
            have hRs : w.heap.size < wr.heap.size := Nat.lt_of_lt_of_le HS1.out HR.out.size
            have v0 := (hbV.cell (p := ⟨w.heap.size, 0, none⟩) hRs).trans z0
            have v1 := (hbV.cell (p := ⟨w.heap.size, 1, none⟩) hRs).trans z1
            have v2 := (hbV.cell (p := ⟨w.heap.size, 2, none⟩) hRs).trans z2
            have HVV := Lib.hid (HR.out.trans (hbV.mono HR.out.size))
            have HSV : Hid (w.heap.size < V.heap.size) := Nat.lt_of_lt_of_le hRs hbV.size
            rw [hV]
            clear hV hbV hwV hRs
            go_region_with (first
              | (go_at_call 39
                 (with_reducible refine (CC.out _).mono ?_)
                 rintro e w2 ⟨rfl, hb2⟩
                 have hb2' := below_from (d := 1) hb2
                 have u0 := (hb2'.cell (p := ⟨w.heap.size, 0, none⟩) HSV.out).trans v0
                 have u1 := (hb2'.cell (p := ⟨w.heap.size, 1, none⟩) HSV.out).trans v1
                 have u2 := (hb2'.cell (p := ⟨w.heap.size, 2, none⟩) HSV.out).trans v2
                 have HR2 := Lib.hid (HVV.out.trans (hb2'.mono HVV.out.size))
                 clear hb2 hb2'))
            all_goals go_wp2
            all_goals
              exact ⟨⟨k + 1, by omega, by go_num, HR2, Lib.hid (HNO.out HNE2.out)⟩, by simp [intOf]; omega⟩
        · have HNE2 : Hid (¬ ((ct, cf, cu) : Sp) = (st, f, u)) := Lib.hid fun h => by simp only [Prod.mk.injEq] at h; omega
          go_wp2
          obtain ⟨V, hV⟩ : ∃ V, wr.alloc (.cells #[.int .i64 st, .int .i64 sf, .int .i64 su] 23) = V := ⟨_, rfl⟩
          have hbV : Below wr.heap.size wr V := by rw [← hV]; exact (Below.refl _ _).alloc (Nat.le_refl _) _
          have hwV : WholeV V wr.heap.size 23 [.int .i64 st, .int .i64 sf, .int .i64 su] := by rw [← hV]; exact heap_alloc_new wr _
          have a0 : V.cell? ⟨wr.heap.size, 0, none⟩ = some (.int .i64 st) := hwV.cell 0
          have a1 : V.cell? ⟨wr.heap.size, 1, none⟩ = some (.int .i64 sf) := hwV.cell 1
          have a2 : V.cell? ⟨wr.heap.size, 2, none⟩ = some (.int .i64 su) := hwV.cell 2
          have hRs : w.heap.size < wr.heap.size := Nat.lt_of_lt_of_le HS1.out HR.out.size
          have v0 := (hbV.cell (p := ⟨w.heap.size, 0, none⟩) hRs).trans z0
          have v1 := (hbV.cell (p := ⟨w.heap.size, 1, none⟩) hRs).trans z1
          have v2 := (hbV.cell (p := ⟨w.heap.size, 2, none⟩) hRs).trans z2
          have HVV := Lib.hid (HR.out.trans (hbV.mono HR.out.size))
          have HSV : Hid (w.heap.size < V.heap.size) := Nat.lt_of_lt_of_le hRs hbV.size
          rw [hV]
          clear hV hbV hwV hRs
          go_region_with (first
            | (go_at_call 39
               (with_reducible refine (CC.out _).mono ?_)
               rintro e w2 ⟨rfl, hb2⟩
               have hb2' := below_from (d := 1) hb2
               have u0 := (hb2'.cell (p := ⟨w.heap.size, 0, none⟩) HSV.out).trans v0
               have u1 := (hb2'.cell (p := ⟨w.heap.size, 1, none⟩) HSV.out).trans v1
               have u2 := (hb2'.cell (p := ⟨w.heap.size, 2, none⟩) HSV.out).trans v2
               have HR2 := Lib.hid (HVV.out.trans (hb2'.mono HVV.out.size))
               clear hb2 hb2'))
          all_goals go_wp2
          all_goals
            exact ⟨⟨k + 1, by omega, by go_num, HR2, Lib.hid (HNO.out HNE2.out)⟩, by simp [intOf]; omega⟩
      · have hge : ¬ (k : Int) < (q : Int) := by omega
        have hI := HI.out
        rw [List.take_of_length_le (by rw [HNm.out]; omega)] at hI
        obtain rfl : b = false := Bool.eq_false_iff.2 fun h => hI (HBm.out.1 h)
        clear hI
        go_wp2
        go_ret
        exact ⟨rfl, HB1.out.trans (HR.out.mono HB1.out.size)⟩

end Go.Proofs.Ytlnmdepaobocnaa

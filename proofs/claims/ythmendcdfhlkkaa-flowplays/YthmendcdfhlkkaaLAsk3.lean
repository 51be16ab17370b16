/- A request by two numbers: busbarlaw0.Ask, of bits. -/
import Derived.Test.YthmendcdfhlkkaaLAsk
import Derived.Test.YthmendcdfhlkkaaAskList2
import Derived.Test.YthmendcdfhlkkaaLentBits
import Derived.Deep.RegionLaw
namespace Go.Proofs.Ythmendcdfhlkkaa
open Go.ChangeShapes Go.WideShapes Go.ChangeAt Go.RowKit
set_option linter.unusedVariables false
set_option linter.unusedSimpArgs false

theorem WholeV.alloc {w : World} {g : Nat} {t : TypeId} {vs : List Value} (h : WholeV w g t vs) (o : Obj) : WholeV (w.alloc o) g t vs := h.below ((Below.refl _ _).alloc (Nat.le_refl _) _) h.lt
/-- Bits by a number. -/
def upB (v : Int) (m : Nat) : List Bool := (List.range m).map fun (i : Nat) => (v % (7 + (i : Int))) % 2 == 1
theorem upB_length (v : Int) (m : Nat) : (upB v m).length = m := by simp [upB]
theorem upB_succ (v : Int) (m : Nat) : upB v (m + 1) = upB v m ++ [(v % (7 + (m : Int))) % 2 == 1] := by simp [upB, List.range_succ]
theorem whole_grown {w w' : World} {g : Nat} {t : TypeId} {vs : List Value} {row : Option Nat} (h : WholeV w g t vs) (hg : w.grownBy w' row) (hr : some g ≠ row) : WholeV w' g t vs := (hg.block g h.lt hr).trans h
theorem own_ne {w : World} {b g : Nat} {e : TypeId} {v : Value} {n : Nat} {xs : List Value} (h : w.ownsRow b e 1 v n xs) (hg : g < b) : some g ≠ v.ownBlock := by
  intro he
  have := own_ge h g he.symm
  omega

set_option maxRecDepth 100000 in
set_option maxHeartbeats 2000000 in
theorem lask_10a (k v : Int) (k0 : -9223372036854775808 ≤ k) (k1 : k ≤ 9223372036854775807) (v0 : -9223372036854775808 ≤ v) (v1 : v ≤ 9223372036854775807) (hq : k % 16 = 10) (h3' : ((k.tdiv 3840) % 12 = 0)) (hv' : ((v.tdiv 64) % 3 = 0)) : AskIs k v := by
  obtain ⟨d1, hd1⟩ : ∃ z, (k.tdiv 16) % 40 = z := ⟨_, rfl⟩
  have d1l : 0 ≤ d1 := by omega
  have d1h : d1 < 40 := by omega
  have HD1 := Lib.hid hd1
  clear hd1
  obtain ⟨d2, hd2⟩ : ∃ z, (k.tdiv 640) % 6 = z := ⟨_, rfl⟩
  have d2l : 0 ≤ d2 := by omega
  have d2h : d2 < 6 := by omega
  have HD2 := Lib.hid hd2
  clear hd2
  obtain ⟨d3, hd3⟩ : ∃ z, (k.tdiv 3840) % 12 = z := ⟨_, rfl⟩
  have d3l : 0 ≤ d3 := by omega
  have d3h : d3 < 12 := by omega
  have HD3 := Lib.hid hd3
  have h3 : d3 = 0 := by rw [← hd3]; exact h3'
  clear h3'
  clear hd3
  obtain ⟨d4, hd4⟩ : ∃ z, (k.tdiv 46080) % 65536 = z := ⟨_, rfl⟩
  have d4l : 0 ≤ d4 := by omega
  have d4h : d4 < 65536 := by omega
  have HD4 := Lib.hid hd4
  clear hd4
  obtain ⟨e3, he3⟩ : ∃ z, (v.tdiv 64) % 3 = z := ⟨_, rfl⟩
  have e3l : 0 ≤ e3 := by omega
  have e3h : e3 < 3 := by omega
  have HE3 := Lib.hid he3
  have h4 : e3 = 0 := by rw [← he3]; exact hv'
  clear hv'
  clear he3
  obtain ⟨d5, hd5⟩ : ∃ z, (k.tdiv 16) % 20 = z := ⟨_, rfl⟩
  have d5l : 0 ≤ d5 := by omega
  have d5h : d5 < 20 := by omega
  have HD5 := Lib.hid hd5
  clear hd5
  have HQ := Lib.hid hq
  clear hq
  all_goals
    refine ⟨15, d5, (14 + (1 + d2)), 0, 0, 0, ((14 + (1 + d2)).toNat), 0, 0, 0, 0, 0, upB v ((14 + (1 + d2)).toNat), [], ⟨⟨rfl, by unfold plainP; omega, by omega, by omega, by have m1 : kMostR 15 = 0 := rfl; have m2 : kMostW 15 = 1968 := rfl; unfold fitsP; omega⟩, wide_of (by omega) (by omega) (by omega) (by omega) (by omega) (by omega) (by omega) (by omega) (by omega), (by intro x hx; cases hx), upB_length _ _, rfl⟩, fun w => ?_⟩
    go_enter Try.func22, Try.ntmps22
    go_wp2_with (first
      | (go_at_call 28; (with_reducible refine (digit_lit k 16 40 _ _ HD1.out k0 k1 (by omega) (by omega) (by omega) (by omega)).mono ?_); rintro e w' ⟨rfl, rfl⟩)
      | (go_at_call 28; (with_reducible refine (digit_lit k 640 6 _ _ HD2.out k0 k1 (by omega) (by omega) (by omega) (by omega)).mono ?_); rintro e w' ⟨rfl, rfl⟩)
      | (go_at_call 28; (with_reducible refine (digit_lit k 3840 12 _ _ HD3.out k0 k1 (by omega) (by omega) (by omega) (by omega)).mono ?_); rintro e w' ⟨rfl, rfl⟩)
      | (go_at_call 28; (with_reducible refine (digit_lit k 46080 65536 _ _ HD4.out k0 k1 (by omega) (by omega) (by omega) (by omega)).mono ?_); rintro e w' ⟨rfl, rfl⟩)
      | (go_at_call 11; (with_reducible refine (within_lit k 16 _ _ HQ.out k0 k1 (by omega) (by omega)).mono ?_); rintro e w' ⟨rfl, rfl⟩)
      | (go_at_call 28; (with_reducible refine (digit_lit v 64 3 _ _ HE3.out v0 v1 (by omega) (by omega) (by omega) (by omega)).mono ?_); rintro e w' ⟨rfl, rfl⟩)
      | (go_at_call 28; (with_reducible refine (digit_lit k 16 20 _ _ HD5.out k0 k1 (by omega) (by omega) (by omega) (by omega)).mono ?_); rintro e w' ⟨rfl, rfl⟩))
    go_loopw [8] (fun i wr => ∃ (j : Nat) (B : Option Addr) (d : Nat), j ≤ (14 + (1 + d2)).toNat ∧ i = .int .i64 (j : Int) ∧ Hid (WholeV wr (w.heap.size + 1) 51 [.int .i64 15, .int .i64 d5, .int .i64 (14 + (1 + d2)), .int .u16 0, .int .u16 0, .int .u16 0, .slice B j d, .slice none 0 0, .int .i64 0, .int .i64 0, .int .i64 0, .int .i64 0]) ∧ Hid (WholeV wr w.heap.size 51 [.int .i64 0, .int .i64 0, .int .i64 0, .int .u16 0, .int .u16 0, .int .u16 0, .slice none 0 0, .slice none 0 0, .int .i64 0, .int .i64 0, .int .i64 0, .int .i64 0]) ∧ Hid (wr.ownsRow (w.heap.size + 2) 4 1 (.slice B j d) j ((upB v j).map Value.bool)) ∧ Hid (Below w.heap.size w wr)) (fun i _ => (14 + (1 + d2)).toNat - (intOf i).toNat)
    case atStart =>
      have hs0 : (w.alloc (.cells #[.int .i64 0, .int .i64 0, .int .i64 0, .int .u16 0, .int .u16 0, .int .u16 0, .slice none 0 0, .slice none 0 0, .int .i64 0, .int .i64 0, .int .i64 0, .int .i64 0] 51)).heap.size = w.heap.size + 1 := by simp
      have hk0 : WholeV (w.alloc (.cells #[.int .i64 0, .int .i64 0, .int .i64 0, .int .u16 0, .int .u16 0, .int .u16 0, .slice none 0 0, .slice none 0 0, .int .i64 0, .int .i64 0, .int .i64 0, .int .i64 0] 51)) w.heap.size 51 [.int .i64 0, .int .i64 0, .int .i64 0, .int .u16 0, .int .u16 0, .int .u16 0, .slice none 0 0, .slice none 0 0, .int .i64 0, .int .i64 0, .int .i64 0, .int .i64 0] := heap_alloc_new w _
      have hk1 := heap_alloc_new (w.alloc (.cells #[.int .i64 0, .int .i64 0, .int .i64 0, .int .u16 0, .int .u16 0, .int .u16 0, .slice none 0 0, .slice none 0 0, .int .i64 0, .int .i64 0, .int .i64 0, .int .i64 0] 51)) (.cells #[.int .i64 15, .int .i64 d5, .int .i64 (14 + (1 + d2)), .int .u16 0, .int .u16 0, .int .u16 0, .slice none 0 0, .slice none 0 0, .int .i64 0, .int .i64 0, .int .i64 0, .int .i64 0] 51)
      rw [hs0] at hk1
      exact ⟨0, none, 0, by omega, rfl, hk1, hk0.below ((Below.refl _ _).alloc (Nat.le_refl _) _) (by simp), own_none _ _ _, ((Below.refl _ _).alloc (Nat.le_refl _) _).alloc (by simp) _⟩
    case round =>
      obtain ⟨j, B, d, hj, rfl, HO, HZ, HK, HB⟩ := hrel
      have hz5 : w.heap.size + 2 ≤ wr.heap.size := HO.out.lt
      by_cases hlt : j < (14 + (1 + d2)).toNat
      · have hi : (j : Int) < 14 + (1 + d2) := by omega
        have hc6 := HO.out.cell 6
        have hf6 := HO.out.frozen 6
        have hc6' : wr.cell? ⟨w.heap.size + 1, 6, none⟩ = some (.slice B j d) := hc6
        obtain ⟨z, hz⟩ : ∃ z, v % (7 + (j : Int)) = z := ⟨_, rfl⟩
        have z0 : 0 ≤ z := by rw [← hz]; exact Int.emod_nonneg _ (by omega)
        have z1 : z < 7 + (j : Int) := by rw [← hz]; exact Int.emod_lt_of_pos _ (by omega)
        have zt : z.tmod 2 = z % 2 := Int.tmod_eq_emod_of_nonneg z0
        have wj : IntKind.i64.wrap (7 + (j : Int)) = 7 + (j : Int) := IntWalk.i64_in _ (by omega)
        have hc6a : (wr.alloc (.cells #[.bool (z % 2 == 1)] 4)).cell? ⟨w.heap.size + 1, 6, none⟩ = some (.slice B j d) := (World.cell?_alloc_lt wr _ ⟨w.heap.size + 1, 6, none⟩ hz5).trans hc6'
        have HZv := Lib.hid hz
        clear hz hc6
        have HU : Hid ((upB v j).map Value.bool ++ [.bool (z % 2 == 1)] = (upB v (j + 1)).map Value.bool) := by rw [upB_succ, HZv.out, List.map_append]; rfl
        go_wp2_with fail
        go_region_law (first
          | (refine step_append_to (.tmp 86) (.tmp 93) 26 (w.heap.size + 2) 4 (.bool false) 1 Try.underlying26 infoBool rfl (.slice B j d) j ((upB v j).map Value.bool) 1 [.bool (z % 2 == 1)] (j + 1) ((upB v (j + 1)).map Value.bool) rfl HU.out (by simp [Value.oneCell']) (by omega) (by omega) ?_ ?_ ?_ ?_ ?_
             · exact ⟨rfl, rfl, rfl⟩
             · first | exact HK.out.alloc _ | exact (HK.out.alloc _).drew | exact HK.out.drew.alloc _
             · first
                 | exact ⟨_, _, rfl, built_row _ _ [.bool (z % 2 == 1)] _ (Below.refl _ _)⟩
                 | exact ⟨_, _, rfl, built_row _ _ [.bool (z % 2 == 1)] _ (Below.refl _ _).drew⟩
             · simp; omega
             intro A8 c8 w8 ho8 hg8
             have hO8 : WholeV w8 (w.heap.size + 1) 51 [.int .i64 15, .int .i64 d5, .int .i64 (14 + (1 + d2)), .int .u16 0, .int .u16 0, .int .u16 0, .slice B j d, .slice none 0 0, .int .i64 0, .int .i64 0, .int .i64 0, .int .i64 0] := by
               first
                 | exact whole_grown (w := (wr.alloc (.cells #[.bool (z % 2 == 1)] 4)).drew) (HO.out.alloc _) hg8 (own_ne HK.out (by omega))
                 | exact whole_grown (HO.out.alloc _) hg8 (own_ne HK.out (by omega))
             have hZ8 : WholeV w8 w.heap.size 51 [.int .i64 0, .int .i64 0, .int .i64 0, .int .u16 0, .int .u16 0, .int .u16 0, .slice none 0 0, .slice none 0 0, .int .i64 0, .int .i64 0, .int .i64 0, .int .i64 0] := by
               first
                 | exact whole_grown (w := (wr.alloc (.cells #[.bool (z % 2 == 1)] 4)).drew) (HZ.out.alloc _) hg8 (own_ne HK.out (by omega))
                 | exact whole_grown (HZ.out.alloc _) hg8 (own_ne HK.out (by omega))
             have hB8 : Below w.heap.size w w8 := by
               first
                 | exact below_append (HB.out.alloc HB.out.size _) (own_mono (HK.out.alloc _) (by omega)) hg8 (by simp; omega)
                 | exact below_append (HB.out.alloc HB.out.size _).drew (own_mono (HK.out.alloc _).drew (by omega)) hg8 (by simp; omega)
             have hc8 : w8.cell? ⟨w.heap.size + 1, 6, none⟩ = some (.slice B j d) := hO8.cell 6
             have hf8 := hO8.frozen 6
             have HO8 := Lib.hid hO8
             have HZ8 := Lib.hid hZ8
             have HB8 := Lib.hid hB8
             have HK8 := Lib.hid ho8
             clear hO8 hZ8 hB8 ho8 hg8)
          | (go_simp; go_at_call 11; (with_reducible refine (within_lit v (7 + (j : Int)) z _ HZv.out v0 v1 (by omega) (by omega)).mono ?_); rintro e w' ⟨rfl, rfl⟩))
        all_goals
          go_wp2
          go_roundw
          case rel =>
            refine ⟨j + 1, A8, c8, by omega, by go_num, ?_, ?_, ?_, ?_⟩
            · exact HO8.out.set 6 (.slice A8 (j + 1) c8)
            · exact HZ8.out.below ((Below.refl (w.heap.size + 1) _).setCell (p := ⟨w.heap.size + 1, 6, none⟩) (Nat.le_refl _) _) (Nat.lt_succ_self _)
            · exact own_far HK8.out ⟨w.heap.size + 1, 6, none⟩ (Nat.lt_succ_self _) _
            · exact HB8.out.setCell (p := ⟨w.heap.size + 1, 6, none⟩) (Nat.le_succ _) _
          case measure => simp [intOf]; omega
      · obtain rfl : j = (14 + (1 + d2)).toNat := by omega
        have hge : ¬ ((((14 + (1 + d2)).toNat : Nat) : Int) < 14 + (1 + d2)) := by omega
        obtain ⟨hq0, hq1, hq2, hq3, hq4, hq5, hq6, hq7, hq8, hq9, hq10, hq11⟩ := cells12 HO.out
        obtain ⟨hp0, hp1, hp2, hp3, hp4, hp5, hp6, hp7, hp8, hp9, hp10, hp11⟩ := cells12 HZ.out
        have hg0 := HZ.out.frozen 0
        have hg1 := HZ.out.frozen 1
        have hg2 := HZ.out.frozen 2
        have hg3 := HZ.out.frozen 3
        have hg4 := HZ.out.frozen 4
        have hg5 := HZ.out.frozen 5
        have hg6 := HZ.out.frozen 6
        have hg7 := HZ.out.frozen 7
        have hg8 := HZ.out.frozen 8
        have hg9 := HZ.out.frozen 9
        have hg10 := HZ.out.frozen 10
        have hg11 := HZ.out.frozen 11
        go_wp2
        obtain ⟨w9, hw9⟩ : ∃ w9, ((((((((((((wr.setCell ⟨w.heap.size, 0, none⟩ (.int .i64 15)).setCell ⟨w.heap.size, 1, none⟩ (.int .i64 d5)).setCell ⟨w.heap.size, 2, none⟩ (.int .i64 (14 + (1 + d2)))).setCell ⟨w.heap.size, 3, none⟩ (.int .u16 0)).setCell ⟨w.heap.size, 4, none⟩ (.int .u16 0)).setCell ⟨w.heap.size, 5, none⟩ (.int .u16 0)).setCell ⟨w.heap.size, 6, none⟩ (.slice B ((14 + (1 + d2)).toNat) d)).setCell ⟨w.heap.size, 7, none⟩ (.slice none 0 0)).setCell ⟨w.heap.size, 8, none⟩ (.int .i64 0)).setCell ⟨w.heap.size, 9, none⟩ (.int .i64 0)).setCell ⟨w.heap.size, 10, none⟩ (.int .i64 0)).setCell ⟨w.heap.size, 11, none⟩ (.int .i64 0)) = w9 := ⟨_, rfl⟩
        have hwh := all12 HZ.out (.int .i64 15) (.int .i64 d5) (.int .i64 (14 + (1 + d2))) (.int .u16 0) (.int .u16 0) (.int .u16 0) (.slice B ((14 + (1 + d2)).toNat) d) (.slice none 0 0) (.int .i64 0) (.int .i64 0) (.int .i64 0) (.int .i64 0) rfl
        have hbb := bel12 HB.out (.int .i64 15) (.int .i64 d5) (.int .i64 (14 + (1 + d2))) (.int .u16 0) (.int .u16 0) (.int .u16 0) (.slice B ((14 + (1 + d2)).toNat) d) (.slice none 0 0) (.int .i64 0) (.int .i64 0) (.int .i64 0) (.int .i64 0)
        have ho9 : w9.ownsRow (w.heap.size + 2) 4 1 (.slice B ((14 + (1 + d2)).toNat) d) ((14 + (1 + d2)).toNat) ((upB v ((14 + (1 + d2)).toNat)).map Value.bool) := by rw [← hw9]; exact (own_far (own_far (own_far (own_far (own_far (own_far (own_far (own_far (own_far (own_far (own_far (own_far HK.out ⟨w.heap.size, 0, none⟩ (Nat.lt_succ_of_lt (Nat.lt_succ_self _)) (.int .i64 15)) ⟨w.heap.size, 1, none⟩ (Nat.lt_succ_of_lt (Nat.lt_succ_self _)) (.int .i64 d5)) ⟨w.heap.size, 2, none⟩ (Nat.lt_succ_of_lt (Nat.lt_succ_self _)) (.int .i64 (14 + (1 + d2)))) ⟨w.heap.size, 3, none⟩ (Nat.lt_succ_of_lt (Nat.lt_succ_self _)) (.int .u16 0)) ⟨w.heap.size, 4, none⟩ (Nat.lt_succ_of_lt (Nat.lt_succ_self _)) (.int .u16 0)) ⟨w.heap.size, 5, none⟩ (Nat.lt_succ_of_lt (Nat.lt_succ_self _)) (.int .u16 0)) ⟨w.heap.size, 6, none⟩ (Nat.lt_succ_of_lt (Nat.lt_succ_self _)) (.slice B ((14 + (1 + d2)).toNat) d)) ⟨w.heap.size, 7, none⟩ (Nat.lt_succ_of_lt (Nat.lt_succ_self _)) (.slice none 0 0)) ⟨w.heap.size, 8, none⟩ (Nat.lt_succ_of_lt (Nat.lt_succ_self _)) (.int .i64 0)) ⟨w.heap.size, 9, none⟩ (Nat.lt_succ_of_lt (Nat.lt_succ_self _)) (.int .i64 0)) ⟨w.heap.size, 10, none⟩ (Nat.lt_succ_of_lt (Nat.lt_succ_self _)) (.int .i64 0)) ⟨w.heap.size, 11, none⟩ (Nat.lt_succ_of_lt (Nat.lt_succ_self _)) (.int .i64 0))
        rw [hw9] at hwh hbb
        rw [hw9]
        obtain ⟨he0, he1, he2, he3, he4, he5, he6, he7, he8, he9, he10, he11⟩ := cells12 hwh
        refine bodyPost_ret (v := .agg #[.int .i64 15, .int .i64 d5, .int .i64 (14 + (1 + d2)), .int .u16 0, .int .u16 0, .int .u16 0, .slice B ((14 + (1 + d2)).toNat) d, .slice none 0 0, .int .i64 0, .int .i64 0, .int .i64 0, .int .i64 0]) (by simp [results, Try.results22, go_sem, he0, he1, he2, he3, he4, he5, he6, he7, he8, he9, he10, he11]) rfl ⟨B, none, d, 0, rfl, own_mono ho9 (by omega), own_none _ _ _, hbb⟩

set_option maxRecDepth 100000 in
set_option maxHeartbeats 2000000 in
theorem lask_10b (k v : Int) (k0 : -9223372036854775808 ≤ k) (k1 : k ≤ 9223372036854775807) (v0 : -9223372036854775808 ≤ v) (v1 : v ≤ 9223372036854775807) (hq : k % 16 = 10) (h3' : ¬ ((k.tdiv 3840) % 12 = 0)) (hv' : ((v.tdiv 64) % 3 = 0)) : AskIs k v := by
  obtain ⟨d1, hd1⟩ : ∃ z, (k.tdiv 16) % 40 = z := ⟨_, rfl⟩
  have d1l : 0 ≤ d1 := by omega
  have d1h : d1 < 40 := by omega
  have HD1 := Lib.hid hd1
  clear hd1
  obtain ⟨d2, hd2⟩ : ∃ z, (k.tdiv 640) % 6 = z := ⟨_, rfl⟩
  have d2l : 0 ≤ d2 := by omega
  have d2h : d2 < 6 := by omega
  have HD2 := Lib.hid hd2
  clear hd2
  obtain ⟨d3, hd3⟩ : ∃ z, (k.tdiv 3840) % 12 = z := ⟨_, rfl⟩
  have d3l : 0 ≤ d3 := by omega
  have d3h : d3 < 12 := by omega
  have HD3 := Lib.hid hd3
  have h3 : ¬ d3 = 0 := by rw [← hd3]; exact h3'
  have hb3 : (d3 == 0) = false := by simpa using h3
  clear h3'
  clear hd3
  obtain ⟨d4, hd4⟩ : ∃ z, (k.tdiv 46080) % 65536 = z := ⟨_, rfl⟩
  have d4l : 0 ≤ d4 := by omega
  have d4h : d4 < 65536 := by omega
  have HD4 := Lib.hid hd4
  clear hd4
  obtain ⟨e3, he3⟩ : ∃ z, (v.tdiv 64) % 3 = z := ⟨_, rfl⟩
  have e3l : 0 ≤ e3 := by omega
  have e3h : e3 < 3 := by omega
  have HE3 := Lib.hid he3
  have h4 : e3 = 0 := by rw [← he3]; exact hv'
  clear hv'
  clear he3
  obtain ⟨d5, hd5⟩ : ∃ z, (k.tdiv 16) % 20 = z := ⟨_, rfl⟩
  have d5l : 0 ≤ d5 := by omega
  have d5h : d5 < 20 := by omega
  have HD5 := Lib.hid hd5
  clear hd5
  have HQ := Lib.hid hq
  clear hq
  all_goals
    refine ⟨15, d5, (14 + (1 + d2)), 0, 0, 0, ((14 + (1 + d2)).toNat), 0, 0, 0, 0, 0, upB v ((14 + (1 + d2)).toNat), [], ⟨⟨rfl, by unfold plainP; omega, by omega, by omega, by have m1 : kMostR 15 = 0 := rfl; have m2 : kMostW 15 = 1968 := rfl; unfold fitsP; omega⟩, wide_of (by omega) (by omega) (by omega) (by omega) (by omega) (by omega) (by omega) (by omega) (by omega), (by intro x hx; cases hx), upB_length _ _, rfl⟩, fun w => ?_⟩
    go_enter Try.func22, Try.ntmps22
    go_wp2_with (first
      | (go_at_call 28; (with_reducible refine (digit_lit k 16 40 _ _ HD1.out k0 k1 (by omega) (by omega) (by omega) (by omega)).mono ?_); rintro e w' ⟨rfl, rfl⟩)
      | (go_at_call 28; (with_reducible refine (digit_lit k 640 6 _ _ HD2.out k0 k1 (by omega) (by omega) (by omega) (by omega)).mono ?_); rintro e w' ⟨rfl, rfl⟩)
      | (go_at_call 28; (with_reducible refine (digit_lit k 3840 12 _ _ HD3.out k0 k1 (by omega) (by omega) (by omega) (by omega)).mono ?_); rintro e w' ⟨rfl, rfl⟩)
      | (go_at_call 28; (with_reducible refine (digit_lit k 46080 65536 _ _ HD4.out k0 k1 (by omega) (by omega) (by omega) (by omega)).mono ?_); rintro e w' ⟨rfl, rfl⟩)
      | (go_at_call 11; (with_reducible refine (within_lit k 16 _ _ HQ.out k0 k1 (by omega) (by omega)).mono ?_); rintro e w' ⟨rfl, rfl⟩)
      | (go_at_call 28; (with_reducible refine (digit_lit v 64 3 _ _ HE3.out v0 v1 (by omega) (by omega) (by omega) (by omega)).mono ?_); rintro e w' ⟨rfl, rfl⟩)
      | (go_at_call 28; (with_reducible refine (digit_lit k 16 20 _ _ HD5.out k0 k1 (by omega) (by omega) (by omega) (by omega)).mono ?_); rintro e w' ⟨rfl, rfl⟩))
    go_loopw [8] (fun i wr => ∃ (j : Nat) (B : Option Addr) (d : Nat), j ≤ (14 + (1 + d2)).toNat ∧ i = .int .i64 (j : Int) ∧ Hid (WholeV wr (w.heap.size + 1) 51 [.int .i64 15, .int .i64 d5, .int .i64 (14 + (1 + d2)), .int .u16 0, .int .u16 0, .int .u16 0, .slice B j d, .slice none 0 0, .int .i64 0, .int .i64 0, .int .i64 0, .int .i64 0]) ∧ Hid (WholeV wr w.heap.size 51 [.int .i64 0, .int .i64 0, .int .i64 0, .int .u16 0, .int .u16 0, .int .u16 0, .slice none 0 0, .slice none 0 0, .int .i64 0, .int .i64 0, .int .i64 0, .int .i64 0]) ∧ Hid (wr.ownsRow (w.heap.size + 2) 4 1 (.slice B j d) j ((upB v j).map Value.bool)) ∧ Hid (Below w.heap.size w wr)) (fun i _ => (14 + (1 + d2)).toNat - (intOf i).toNat)
    case atStart =>
      have hs0 : (w.alloc (.cells #[.int .i64 0, .int .i64 0, .int .i64 0, .int .u16 0, .int .u16 0, .int .u16 0, .slice none 0 0, .slice none 0 0, .int .i64 0, .int .i64 0, .int .i64 0, .int .i64 0] 51)).heap.size = w.heap.size + 1 := by simp
      have hk0 : WholeV (w.alloc (.cells #[.int .i64 0, .int .i64 0, .int .i64 0, .int .u16 0, .int .u16 0, .int .u16 0, .slice none 0 0, .slice none 0 0, .int .i64 0, .int .i64 0, .int .i64 0, .int .i64 0] 51)) w.heap.size 51 [.int .i64 0, .int .i64 0, .int .i64 0, .int .u16 0, .int .u16 0, .int .u16 0, .slice none 0 0, .slice none 0 0, .int .i64 0, .int .i64 0, .int .i64 0, .int .i64 0] := heap_alloc_new w _
      have hk1 := heap_alloc_new (w.alloc (.cells #[.int .i64 0, .int .i64 0, .int .i64 0, .int .u16 0, .int .u16 0, .int .u16 0, .slice none 0 0, .slice none 0 0, .int .i64 0, .int .i64 0, .int .i64 0, .int .i64 0] 51)) (.cells #[.int .i64 15, .int .i64 d5, .int .i64 (14 + (1 + d2)), .int .u16 0, .int .u16 0, .int .u16 0, .slice none 0 0, .slice none 0 0, .int .i64 0, .int .i64 0, .int .i64 0, .int .i64 0] 51)
      rw [hs0] at hk1
      exact ⟨0, none, 0, by omega, rfl, hk1, hk0.below ((Below.refl _ _).alloc (Nat.le_refl _) _) (by simp), own_none _ _ _, ((Below.refl _ _).alloc (Nat.le_refl _) _).alloc (by simp) _⟩
    case round =>
      obtain ⟨j, B, d, hj, rfl, HO, HZ, HK, HB⟩ := hrel
      have hz5 : w.heap.size + 2 ≤ wr.heap.size := HO.out.lt
      by_cases hlt : j < (14 + (1 + d2)).toNat
      · have hi : (j : Int) < 14 + (1 + d2) := by omega
        have hc6 := HO.out.cell 6
        have hf6 := HO.out.frozen 6
        have hc6' : wr.cell? ⟨w.heap.size + 1, 6, none⟩ = some (.slice B j d) := hc6
        obtain ⟨z, hz⟩ : ∃ z, v % (7 + (j : Int)) = z := ⟨_, rfl⟩
        have z0 : 0 ≤ z := by rw [← hz]; exact Int.emod_nonneg _ (by omega)
        have z1 : z < 7 + (j : Int) := by rw [← hz]; exact Int.emod_lt_of_pos _ (by omega)
        have zt : z.tmod 2 = z % 2 := Int.tmod_eq_emod_of_nonneg z0
        have wj : IntKind.i64.wrap (7 + (j : Int)) = 7 + (j : Int) := IntWalk.i64_in _ (by omega)
        have hc6a : (wr.alloc (.cells #[.bool (z % 2 == 1)] 4)).cell? ⟨w.heap.size + 1, 6, none⟩ = some (.slice B j d) := (World.cell?_alloc_lt wr _ ⟨w.heap.size + 1, 6, none⟩ hz5).trans hc6'
        have HZv := Lib.hid hz
        clear hz hc6
        have HU : Hid ((upB v j).map Value.bool ++ [.bool (z % 2 == 1)] = (upB v (j + 1)).map Value.bool) := by rw [upB_succ, HZv.out, List.map_append]; rfl
        go_wp2_with fail
        go_region_law (first
          | (refine step_append_to (.tmp 86) (.tmp 93) 26 (w.heap.size + 2) 4 (.bool false) 1 Try.underlying26 infoBool rfl (.slice B j d) j ((upB v j).map Value.bool) 1 [.bool (z % 2 == 1)] (j + 1) ((upB v (j + 1)).map Value.bool) rfl HU.out (by simp [Value.oneCell']) (by omega) (by omega) ?_ ?_ ?_ ?_ ?_
             · exact ⟨rfl, rfl, rfl⟩
             · first | exact HK.out.alloc _ | exact (HK.out.alloc _).drew | exact HK.out.drew.alloc _
             · first
                 | exact ⟨_, _, rfl, built_row _ _ [.bool (z % 2 == 1)] _ (Below.refl _ _)⟩
                 | exact ⟨_, _, rfl, built_row _ _ [.bool (z % 2 == 1)] _ (Below.refl _ _).drew⟩
             · simp; omega
             intro A8 c8 w8 ho8 hg8
             have hO8 : WholeV w8 (w.heap.size + 1) 51 [.int .i64 15, .int .i64 d5, .int .i64 (14 + (1 + d2)), .int .u16 0, .int .u16 0, .int .u16 0, .slice B j d, .slice none 0 0, .int .i64 0, .int .i64 0, .int .i64 0, .int .i64 0] := by
               first
                 | exact whole_grown (w := (wr.alloc (.cells #[.bool (z % 2 == 1)] 4)).drew) (HO.out.alloc _) hg8 (own_ne HK.out (by omega))
                 | exact whole_grown (HO.out.alloc _) hg8 (own_ne HK.out (by omega))
             have hZ8 : WholeV w8 w.heap.size 51 [.int .i64 0, .int .i64 0, .int .i64 0, .int .u16 0, .int .u16 0, .int .u16 0, .slice none 0 0, .slice none 0 0, .int .i64 0, .int .i64 0, .int .i64 0, .int .i64 0] := by
               first
                 | exact whole_grown (w := (wr.alloc (.cells #[.bool (z % 2 == 1)] 4)).drew) (HZ.out.alloc _) hg8 (own_ne HK.out (by omega))
                 | exact whole_grown (HZ.out.alloc _) hg8 (own_ne HK.out (by omega))
             have hB8 : Below w.heap.size w w8 := by
               first
                 | exact below_append (HB.out.alloc HB.out.size _) (own_mono (HK.out.alloc _) (by omega)) hg8 (by simp; omega)
                 | exact below_append (HB.out.alloc HB.out.size _).drew (own_mono (HK.out.alloc _).drew (by omega)) hg8 (by simp; omega)
             have hc8 : w8.cell? ⟨w.heap.size + 1, 6, none⟩ = some (.slice B j d) := hO8.cell 6
             have hf8 := hO8.frozen 6
             have HO8 := Lib.hid hO8
             have HZ8 := Lib.hid hZ8
             have HB8 := Lib.hid hB8
             have HK8 := Lib.hid ho8
             clear hO8 hZ8 hB8 ho8 hg8)
          | (go_simp; go_at_call 11; (with_reducible refine (within_lit v (7 + (j : Int)) z _ HZv.out v0 v1 (by omega) (by omega)).mono ?_); rintro e w' ⟨rfl, rfl⟩))
        all_goals
          go_wp2
          go_roundw
          case rel =>
            refine ⟨j + 1, A8, c8, by omega, by go_num, ?_, ?_, ?_, ?_⟩
            · exact HO8.out.set 6 (.slice A8 (j + 1) c8)
            · exact HZ8.out.below ((Below.refl (w.heap.size + 1) _).setCell (p := ⟨w.heap.size + 1, 6, none⟩) (Nat.le_refl _) _) (Nat.lt_succ_self _)
            · exact own_far HK8.out ⟨w.heap.size + 1, 6, none⟩ (Nat.lt_succ_self _) _
            · exact HB8.out.setCell (p := ⟨w.heap.size + 1, 6, none⟩) (Nat.le_succ _) _
          case measure => simp [intOf]; omega
      · obtain rfl : j = (14 + (1 + d2)).toNat := by omega
        have hge : ¬ ((((14 + (1 + d2)).toNat : Nat) : Int) < 14 + (1 + d2)) := by omega
        obtain ⟨hq0, hq1, hq2, hq3, hq4, hq5, hq6, hq7, hq8, hq9, hq10, hq11⟩ := cells12 HO.out
        obtain ⟨hp0, hp1, hp2, hp3, hp4, hp5, hp6, hp7, hp8, hp9, hp10, hp11⟩ := cells12 HZ.out
        have hg0 := HZ.out.frozen 0
        have hg1 := HZ.out.frozen 1
        have hg2 := HZ.out.frozen 2
        have hg3 := HZ.out.frozen 3
        have hg4 := HZ.out.frozen 4
        have hg5 := HZ.out.frozen 5
        have hg6 := HZ.out.frozen 6
        have hg7 := HZ.out.frozen 7
        have hg8 := HZ.out.frozen 8
        have hg9 := HZ.out.frozen 9
        have hg10 := HZ.out.frozen 10
        have hg11 := HZ.out.frozen 11
        go_wp2
        obtain ⟨w9, hw9⟩ : ∃ w9, ((((((((((((wr.setCell ⟨w.heap.size, 0, none⟩ (.int .i64 15)).setCell ⟨w.heap.size, 1, none⟩ (.int .i64 d5)).setCell ⟨w.heap.size, 2, none⟩ (.int .i64 (14 + (1 + d2)))).setCell ⟨w.heap.size, 3, none⟩ (.int .u16 0)).setCell ⟨w.heap.size, 4, none⟩ (.int .u16 0)).setCell ⟨w.heap.size, 5, none⟩ (.int .u16 0)).setCell ⟨w.heap.size, 6, none⟩ (.slice B ((14 + (1 + d2)).toNat) d)).setCell ⟨w.heap.size, 7, none⟩ (.slice none 0 0)).setCell ⟨w.heap.size, 8, none⟩ (.int .i64 0)).setCell ⟨w.heap.size, 9, none⟩ (.int .i64 0)).setCell ⟨w.heap.size, 10, none⟩ (.int .i64 0)).setCell ⟨w.heap.size, 11, none⟩ (.int .i64 0)) = w9 := ⟨_, rfl⟩
        have hwh := all12 HZ.out (.int .i64 15) (.int .i64 d5) (.int .i64 (14 + (1 + d2))) (.int .u16 0) (.int .u16 0) (.int .u16 0) (.slice B ((14 + (1 + d2)).toNat) d) (.slice none 0 0) (.int .i64 0) (.int .i64 0) (.int .i64 0) (.int .i64 0) rfl
        have hbb := bel12 HB.out (.int .i64 15) (.int .i64 d5) (.int .i64 (14 + (1 + d2))) (.int .u16 0) (.int .u16 0) (.int .u16 0) (.slice B ((14 + (1 + d2)).toNat) d) (.slice none 0 0) (.int .i64 0) (.int .i64 0) (.int .i64 0) (.int .i64 0)
        have ho9 : w9.ownsRow (w.heap.size + 2) 4 1 (.slice B ((14 + (1 + d2)).toNat) d) ((14 + (1 + d2)).toNat) ((upB v ((14 + (1 + d2)).toNat)).map Value.bool) := by rw [← hw9]; exact (own_far (own_far (own_far (own_far (own_far (own_far (own_far (own_far (own_far (own_far (own_far (own_far HK.out ⟨w.heap.size, 0, none⟩ (Nat.lt_succ_of_lt (Nat.lt_succ_self _)) (.int .i64 15)) ⟨w.heap.size, 1, none⟩ (Nat.lt_succ_of_lt (Nat.lt_succ_self _)) (.int .i64 d5)) ⟨w.heap.size, 2, none⟩ (Nat.lt_succ_of_lt (Nat.lt_succ_self _)) (.int .i64 (14 + (1 + d2)))) ⟨w.heap.size, 3, none⟩ (Nat.lt_succ_of_lt (Nat.lt_succ_self _)) (.int .u16 0)) ⟨w.heap.size, 4, none⟩ (Nat.lt_succ_of_lt (Nat.lt_succ_self _)) (.int .u16 0)) ⟨w.heap.size, 5, none⟩ (Nat.lt_succ_of_lt (Nat.lt_succ_self _)) (.int .u16 0)) ⟨w.heap.size, 6, none⟩ (Nat.lt_succ_of_lt (Nat.lt_succ_self _)) (.slice B ((14 + (1 + d2)).toNat) d)) ⟨w.heap.size, 7, none⟩ (Nat.lt_succ_of_lt (Nat.lt_succ_self _)) (.slice none 0 0)) ⟨w.heap.size, 8, none⟩ (Nat.lt_succ_of_lt (Nat.lt_succ_self _)) (.int .i64 0)) ⟨w.heap.size, 9, none⟩ (Nat.lt_succ_of_lt (Nat.lt_succ_self _)) (.int .i64 0)) ⟨w.heap.size, 10, none⟩ (Nat.lt_succ_of_lt (Nat.lt_succ_self _)) (.int .i64 0)) ⟨w.heap.size, 11, none⟩ (Nat.lt_succ_of_lt (Nat.lt_succ_self _)) (.int .i64 0))
        rw [hw9] at hwh hbb
        rw [hw9]
        obtain ⟨he0, he1, he2, he3, he4, he5, he6, he7, he8, he9, he10, he11⟩ := cells12 hwh
        refine bodyPost_ret (v := .agg #[.int .i64 15, .int .i64 d5, .int .i64 (14 + (1 + d2)), .int .u16 0, .int .u16 0, .int .u16 0, .slice B ((14 + (1 + d2)).toNat) d, .slice none 0 0, .int .i64 0, .int .i64 0, .int .i64 0, .int .i64 0]) (by simp [results, Try.results22, go_sem, he0, he1, he2, he3, he4, he5, he6, he7, he8, he9, he10, he11]) rfl ⟨B, none, d, 0, rfl, own_mono ho9 (by omega), own_none _ _ _, hbb⟩

set_option maxRecDepth 100000 in
set_option maxHeartbeats 2000000 in
theorem lask_10c (k v : Int) (k0 : -9223372036854775808 ≤ k) (k1 : k ≤ 9223372036854775807) (v0 : -9223372036854775808 ≤ v) (v1 : v ≤ 9223372036854775807) (hq : k % 16 = 10) (h3' : ((k.tdiv 3840) % 12 = 0)) (hv' : ¬ ((v.tdiv 64) % 3 = 0)) : AskIs k v := by
  obtain ⟨d1, hd1⟩ : ∃ z, (k.tdiv 16) % 40 = z := ⟨_, rfl⟩
  have d1l : 0 ≤ d1 := by omega
  have d1h : d1 < 40 := by omega
  have HD1 := Lib.hid hd1
  clear hd1
  obtain ⟨d2, hd2⟩ : ∃ z, (k.tdiv 640) % 6 = z := ⟨_, rfl⟩
  have d2l : 0 ≤ d2 := by omega
  have d2h : d2 < 6 := by omega
  have HD2 := Lib.hid hd2
  clear hd2
  obtain ⟨d3, hd3⟩ : ∃ z, (k.tdiv 3840) % 12 = z := ⟨_, rfl⟩
  have d3l : 0 ≤ d3 := by omega
  have d3h : d3 < 12 := by omega
  have HD3 := Lib.hid hd3
  have h3 : d3 = 0 := by rw [← hd3]; exact h3'
  clear h3'
  clear hd3
  obtain ⟨d4, hd4⟩ : ∃ z, (k.tdiv 46080) % 65536 = z := ⟨_, rfl⟩
  have d4l : 0 ≤ d4 := by omega
  have d4h : d4 < 65536 := by omega
  have HD4 := Lib.hid hd4
  clear hd4
  obtain ⟨e3, he3⟩ : ∃ z, (v.tdiv 64) % 3 = z := ⟨_, rfl⟩
  have e3l : 0 ≤ e3 := by omega
  have e3h : e3 < 3 := by omega
  have HE3 := Lib.hid he3
  have h4 : ¬ e3 = 0 := by rw [← he3]; exact hv'
  have hb4 : (e3 == 0) = false := by simpa using h4
  clear hv'
  clear he3
  obtain ⟨d5, hd5⟩ : ∃ z, (k.tdiv 16) % 20 = z := ⟨_, rfl⟩
  have d5l : 0 ≤ d5 := by omega
  have d5h : d5 < 20 := by omega
  have HD5 := Lib.hid hd5
  clear hd5
  have HQ := Lib.hid hq
  clear hq
  all_goals
    refine ⟨15, d4, (1 + d2), 0, 0, 0, ((1 + d2).toNat), 0, 0, 0, 0, 0, upB v ((1 + d2).toNat), [], ⟨⟨rfl, by unfold plainP; omega, by omega, by omega, by have m1 : kMostR 15 = 0 := rfl; have m2 : kMostW 15 = 1968 := rfl; unfold fitsP; omega⟩, wide_of (by omega) (by omega) (by omega) (by omega) (by omega) (by omega) (by omega) (by omega) (by omega), (by intro x hx; cases hx), upB_length _ _, rfl⟩, fun w => ?_⟩
    go_enter Try.func22, Try.ntmps22
    go_wp2_with (first
      | (go_at_call 28; (with_reducible refine (digit_lit k 16 40 _ _ HD1.out k0 k1 (by omega) (by omega) (by omega) (by omega)).mono ?_); rintro e w' ⟨rfl, rfl⟩)
      | (go_at_call 28; (with_reducible refine (digit_lit k 640 6 _ _ HD2.out k0 k1 (by omega) (by omega) (by omega) (by omega)).mono ?_); rintro e w' ⟨rfl, rfl⟩)
      | (go_at_call 28; (with_reducible refine (digit_lit k 3840 12 _ _ HD3.out k0 k1 (by omega) (by omega) (by omega) (by omega)).mono ?_); rintro e w' ⟨rfl, rfl⟩)
      | (go_at_call 28; (with_reducible refine (digit_lit k 46080 65536 _ _ HD4.out k0 k1 (by omega) (by omega) (by omega) (by omega)).mono ?_); rintro e w' ⟨rfl, rfl⟩)
      | (go_at_call 11; (with_reducible refine (within_lit k 16 _ _ HQ.out k0 k1 (by omega) (by omega)).mono ?_); rintro e w' ⟨rfl, rfl⟩)
      | (go_at_call 28; (with_reducible refine (digit_lit v 64 3 _ _ HE3.out v0 v1 (by omega) (by omega) (by omega) (by omega)).mono ?_); rintro e w' ⟨rfl, rfl⟩)
      | (go_at_call 28; (with_reducible refine (digit_lit k 16 20 _ _ HD5.out k0 k1 (by omega) (by omega) (by omega) (by omega)).mono ?_); rintro e w' ⟨rfl, rfl⟩))
    go_loopw [8] (fun i wr => ∃ (j : Nat) (B : Option Addr) (d : Nat), j ≤ (1 + d2).toNat ∧ i = .int .i64 (j : Int) ∧ Hid (WholeV wr (w.heap.size + 1) 51 [.int .i64 15, .int .i64 d4, .int .i64 (1 + d2), .int .u16 0, .int .u16 0, .int .u16 0, .slice B j d, .slice none 0 0, .int .i64 0, .int .i64 0, .int .i64 0, .int .i64 0]) ∧ Hid (WholeV wr w.heap.size 51 [.int .i64 0, .int .i64 0, .int .i64 0, .int .u16 0, .int .u16 0, .int .u16 0, .slice none 0 0, .slice none 0 0, .int .i64 0, .int .i64 0, .int .i64 0, .int .i64 0]) ∧ Hid (wr.ownsRow (w.heap.size + 2) 4 1 (.slice B j d) j ((upB v j).map Value.bool)) ∧ Hid (Below w.heap.size w wr)) (fun i _ => (1 + d2).toNat - (intOf i).toNat)
    case atStart =>
      have hs0 : (w.alloc (.cells #[.int .i64 0, .int .i64 0, .int .i64 0, .int .u16 0, .int .u16 0, .int .u16 0, .slice none 0 0, .slice none 0 0, .int .i64 0, .int .i64 0, .int .i64 0, .int .i64 0] 51)).heap.size = w.heap.size + 1 := by simp
      have hk0 : WholeV (w.alloc (.cells #[.int .i64 0, .int .i64 0, .int .i64 0, .int .u16 0, .int .u16 0, .int .u16 0, .slice none 0 0, .slice none 0 0, .int .i64 0, .int .i64 0, .int .i64 0, .int .i64 0] 51)) w.heap.size 51 [.int .i64 0, .int .i64 0, .int .i64 0, .int .u16 0, .int .u16 0, .int .u16 0, .slice none 0 0, .slice none 0 0, .int .i64 0, .int .i64 0, .int .i64 0, .int .i64 0] := heap_alloc_new w _
      have hk1 := heap_alloc_new (w.alloc (.cells #[.int .i64 0, .int .i64 0, .int .i64 0, .int .u16 0, .int .u16 0, .int .u16 0, .slice none 0 0, .slice none 0 0, .int .i64 0, .int .i64 0, .int .i64 0, .int .i64 0] 51)) (.cells #[.int .i64 15, .int .i64 d4, .int .i64 (1 + d2), .int .u16 0, .int .u16 0, .int .u16 0, .slice none 0 0, .slice none 0 0, .int .i64 0, .int .i64 0, .int .i64 0, .int .i64 0] 51)
      rw [hs0] at hk1
      exact ⟨0, none, 0, by omega, rfl, hk1, hk0.below ((Below.refl _ _).alloc (Nat.le_refl _) _) (by simp), own_none _ _ _, ((Below.refl _ _).alloc (Nat.le_refl _) _).alloc (by simp) _⟩
    case round =>
      obtain ⟨j, B, d, hj, rfl, HO, HZ, HK, HB⟩ := hrel
      have hz5 : w.heap.size + 2 ≤ wr.heap.size := HO.out.lt
      by_cases hlt : j < (1 + d2).toNat
      · have hi : (j : Int) < 1 + d2 := by omega
        have hc6 := HO.out.cell 6
        have hf6 := HO.out.frozen 6
        have hc6' : wr.cell? ⟨w.heap.size + 1, 6, none⟩ = some (.slice B j d) := hc6
        obtain ⟨z, hz⟩ : ∃ z, v % (7 + (j : Int)) = z := ⟨_, rfl⟩
        have z0 : 0 ≤ z := by rw [← hz]; exact Int.emod_nonneg _ (by omega)
        have z1 : z < 7 + (j : Int) := by rw [← hz]; exact Int.emod_lt_of_pos _ (by omega)
        have zt : z.tmod 2 = z % 2 := Int.tmod_eq_emod_of_nonneg z0
        have wj : IntKind.i64.wrap (7 + (j : Int)) = 7 + (j : Int) := IntWalk.i64_in _ (by omega)
        have hc6a : (wr.alloc (.cells #[.bool (z % 2 == 1)] 4)).cell? ⟨w.heap.size + 1, 6, none⟩ = some (.slice B j d) := (World.cell?_alloc_lt wr _ ⟨w.heap.size + 1, 6, none⟩ hz5).trans hc6'
        have HZv := Lib.hid hz
        clear hz hc6
        have HU : Hid ((upB v j).map Value.bool ++ [.bool (z % 2 == 1)] = (upB v (j + 1)).map Value.bool) := by rw [upB_succ, HZv.out, List.map_append]; rfl
        go_wp2_with fail
        go_region_law (first
          | (refine step_append_to (.tmp 86) (.tmp 93) 26 (w.heap.size + 2) 4 (.bool false) 1 Try.underlying26 infoBool rfl (.slice B j d) j ((upB v j).map Value.bool) 1 [.bool (z % 2 == 1)] (j + 1) ((upB v (j + 1)).map Value.bool) rfl HU.out (by simp [Value.oneCell']) (by omega) (by omega) ?_ ?_ ?_ ?_ ?_
             · exact ⟨rfl, rfl, rfl⟩
             · first | exact HK.out.alloc _ | exact (HK.out.alloc _).drew | exact HK.out.drew.alloc _
             · first
                 | exact ⟨_, _, rfl, built_row _ _ [.bool (z % 2 == 1)] _ (Below.refl _ _)⟩
                 | exact ⟨_, _, rfl, built_row _ _ [.bool (z % 2 == 1)] _ (Below.refl _ _).drew⟩
             · simp; omega
             intro A8 c8 w8 ho8 hg8
             have hO8 : WholeV w8 (w.heap.size + 1) 51 [.int .i64 15, .int .i64 d4, .int .i64 (1 + d2), .int .u16 0, .int .u16 0, .int .u16 0, .slice B j d, .slice none 0 0, .int .i64 0, .int .i64 0, .int .i64 0, .int .i64 0] := by
               first
                 | exact whole_grown (w := (wr.alloc (.cells #[.bool (z % 2 == 1)] 4)).drew) (HO.out.alloc _) hg8 (own_ne HK.out (by omega))
                 | exact whole_grown (HO.out.alloc _) hg8 (own_ne HK.out (by omega))
             have hZ8 : WholeV w8 w.heap.size 51 [.int .i64 0, .int .i64 0, .int .i64 0, .int .u16 0, .int .u16 0, .int .u16 0, .slice none 0 0, .slice none 0 0, .int .i64 0, .int .i64 0, .int .i64 0, .int .i64 0] := by
               first
                 | exact whole_grown (w := (wr.alloc (.cells #[.bool (z % 2 == 1)] 4)).drew) (HZ.out.alloc _) hg8 (own_ne HK.out (by omega))
                 | exact whole_grown (HZ.out.alloc _) hg8 (own_ne HK.out (by omega))
             have hB8 : Below w.heap.size w w8 := by
               first
                 | exact below_append (HB.out.alloc HB.out.size _) (own_mono (HK.out.alloc _) (by omega)) hg8 (by simp; omega)
                 | exact below_append (HB.out.alloc HB.out.size _).drew (own_mono (HK.out.alloc _).drew (by omega)) hg8 (by simp; omega)
             have hc8 : w8.cell? ⟨w.heap.size + 1, 6, none⟩ = some (.slice B j d) := hO8.cell 6
             have hf8 := hO8.frozen 6
             have HO8 := Lib.hid hO8
             have HZ8 := Lib.hid hZ8
             have HB8 := Lib.hid hB8
             have HK8 := Lib.hid ho8
             clear hO8 hZ8 hB8 ho8 hg8)
          | (go_simp; go_at_call 11; (with_reducible refine (within_lit v (7 + (j : Int)) z _ HZv.out v0 v1 (by omega) (by omega)).mono ?_); rintro e w' ⟨rfl, rfl⟩))
        all_goals
          go_wp2
          go_roundw
          case rel =>
            refine ⟨j + 1, A8, c8, by omega, by go_num, ?_, ?_, ?_, ?_⟩
            · exact HO8.out.set 6 (.slice A8 (j + 1) c8)
            · exact HZ8.out.below ((Below.refl (w.heap.size + 1) _).setCell (p := ⟨w.heap.size + 1, 6, none⟩) (Nat.le_refl _) _) (Nat.lt_succ_self _)
            · exact own_far HK8.out ⟨w.heap.size + 1, 6, none⟩ (Nat.lt_succ_self _) _
            · exact HB8.out.setCell (p := ⟨w.heap.size + 1, 6, none⟩) (Nat.le_succ _) _
          case measure => simp [intOf]; omega
      · obtain rfl : j = (1 + d2).toNat := by omega
        have hge : ¬ ((((1 + d2).toNat : Nat) : Int) < 1 + d2) := by omega
        obtain ⟨hq0, hq1, hq2, hq3, hq4, hq5, hq6, hq7, hq8, hq9, hq10, hq11⟩ := cells12 HO.out
        obtain ⟨hp0, hp1, hp2, hp3, hp4, hp5, hp6, hp7, hp8, hp9, hp10, hp11⟩ := cells12 HZ.out
        have hg0 := HZ.out.frozen 0
        have hg1 := HZ.out.frozen 1
        have hg2 := HZ.out.frozen 2
        have hg3 := HZ.out.frozen 3
        have hg4 := HZ.out.frozen 4
        have hg5 := HZ.out.frozen 5
        have hg6 := HZ.out.frozen 6
        have hg7 := HZ.out.frozen 7
        have hg8 := HZ.out.frozen 8
        have hg9 := HZ.out.frozen 9
        have hg10 := HZ.out.frozen 10
        have hg11 := HZ.out.frozen 11
        go_wp2
        obtain ⟨w9, hw9⟩ : ∃ w9, ((((((((((((wr.setCell ⟨w.heap.size, 0, none⟩ (.int .i64 15)).setCell ⟨w.heap.size, 1, none⟩ (.int .i64 d4)).setCell ⟨w.heap.size, 2, none⟩ (.int .i64 (1 + d2))).setCell ⟨w.heap.size, 3, none⟩ (.int .u16 0)).setCell ⟨w.heap.size, 4, none⟩ (.int .u16 0)).setCell ⟨w.heap.size, 5, none⟩ (.int .u16 0)).setCell ⟨w.heap.size, 6, none⟩ (.slice B ((1 + d2).toNat) d)).setCell ⟨w.heap.size, 7, none⟩ (.slice none 0 0)).setCell ⟨w.heap.size, 8, none⟩ (.int .i64 0)).setCell ⟨w.heap.size, 9, none⟩ (.int .i64 0)).setCell ⟨w.heap.size, 10, none⟩ (.int .i64 0)).setCell ⟨w.heap.size, 11, none⟩ (.int .i64 0)) = w9 := ⟨_, rfl⟩
        have hwh := all12 HZ.out (.int .i64 15) (.int .i64 d4) (.int .i64 (1 + d2)) (.int .u16 0) (.int .u16 0) (.int .u16 0) (.slice B ((1 + d2).toNat) d) (.slice none 0 0) (.int .i64 0) (.int .i64 0) (.int .i64 0) (.int .i64 0) rfl
        have hbb := bel12 HB.out (.int .i64 15) (.int .i64 d4) (.int .i64 (1 + d2)) (.int .u16 0) (.int .u16 0) (.int .u16 0) (.slice B ((1 + d2).toNat) d) (.slice none 0 0) (.int .i64 0) (.int .i64 0) (.int .i64 0) (.int .i64 0)
        have ho9 : w9.ownsRow (w.heap.size + 2) 4 1 (.slice B ((1 + d2).toNat) d) ((1 + d2).toNat) ((upB v ((1 + d2).toNat)).map Value.bool) := by rw [← hw9]; exact (own_far (own_far (own_far (own_far (own_far (own_far (own_far (own_far (own_far (own_far (own_far (own_far HK.out ⟨w.heap.size, 0, none⟩ (Nat.lt_succ_of_lt (Nat.lt_succ_self _)) (.int .i64 15)) ⟨w.heap.size, 1, none⟩ (Nat.lt_succ_of_lt (Nat.lt_succ_self _)) (.int .i64 d4)) ⟨w.heap.size, 2, none⟩ (Nat.lt_succ_of_lt (Nat.lt_succ_self _)) (.int .i64 (1 + d2))) ⟨w.heap.size, 3, none⟩ (Nat.lt_succ_of_lt (Nat.lt_succ_self _)) (.int .u16 0)) ⟨w.heap.size, 4, none⟩ (Nat.lt_succ_of_lt (Nat.lt_succ_self _)) (.int .u16 0)) ⟨w.heap.size, 5, none⟩ (Nat.lt_succ_of_lt (Nat.lt_succ_self _)) (.int .u16 0)) ⟨w.heap.size, 6, none⟩ (Nat.lt_succ_of_lt (Nat.lt_succ_self _)) (.slice B ((1 + d2).toNat) d)) ⟨w.heap.size, 7, none⟩ (Nat.lt_succ_of_lt (Nat.lt_succ_self _)) (.slice none 0 0)) ⟨w.heap.size, 8, none⟩ (Nat.lt_succ_of_lt (Nat.lt_succ_self _)) (.int .i64 0)) ⟨w.heap.size, 9, none⟩ (Nat.lt_succ_of_lt (Nat.lt_succ_self _)) (.int .i64 0)) ⟨w.heap.size, 10, none⟩ (Nat.lt_succ_of_lt (Nat.lt_succ_self _)) (.int .i64 0)) ⟨w.heap.size, 11, none⟩ (Nat.lt_succ_of_lt (Nat.lt_succ_self _)) (.int .i64 0))
        rw [hw9] at hwh hbb
        rw [hw9]
        obtain ⟨he0, he1, he2, he3, he4, he5, he6, he7, he8, he9, he10, he11⟩ := cells12 hwh
        refine bodyPost_ret (v := .agg #[.int .i64 15, .int .i64 d4, .int .i64 (1 + d2), .int .u16 0, .int .u16 0, .int .u16 0, .slice B ((1 + d2).toNat) d, .slice none 0 0, .int .i64 0, .int .i64 0, .int .i64 0, .int .i64 0]) (by simp [results, Try.results22, go_sem, he0, he1, he2, he3, he4, he5, he6, he7, he8, he9, he10, he11]) rfl ⟨B, none, d, 0, rfl, own_mono ho9 (by omega), own_none _ _ _, hbb⟩

set_option maxRecDepth 100000 in
set_option maxHeartbeats 2000000 in
theorem lask_10d (k v : Int) (k0 : -9223372036854775808 ≤ k) (k1 : k ≤ 9223372036854775807) (v0 : -9223372036854775808 ≤ v) (v1 : v ≤ 9223372036854775807) (hq : k % 16 = 10) (h3' : ¬ ((k.tdiv 3840) % 12 = 0)) (hv' : ¬ ((v.tdiv 64) % 3 = 0)) : AskIs k v := by
  obtain ⟨d1, hd1⟩ : ∃ z, (k.tdiv 16) % 40 = z := ⟨_, rfl⟩
  have d1l : 0 ≤ d1 := by omega
  have d1h : d1 < 40 := by omega
  have HD1 := Lib.hid hd1
  clear hd1
  obtain ⟨d2, hd2⟩ : ∃ z, (k.tdiv 640) % 6 = z := ⟨_, rfl⟩
  have d2l : 0 ≤ d2 := by omega
  have d2h : d2 < 6 := by omega
  have HD2 := Lib.hid hd2
  clear hd2
  obtain ⟨d3, hd3⟩ : ∃ z, (k.tdiv 3840) % 12 = z := ⟨_, rfl⟩
  have d3l : 0 ≤ d3 := by omega
  have d3h : d3 < 12 := by omega
  have HD3 := Lib.hid hd3
  have h3 : ¬ d3 = 0 := by rw [← hd3]; exact h3'
  have hb3 : (d3 == 0) = false := by simpa using h3
  clear h3'
  clear hd3
  obtain ⟨d4, hd4⟩ : ∃ z, (k.tdiv 46080) % 65536 = z := ⟨_, rfl⟩
  have d4l : 0 ≤ d4 := by omega
  have d4h : d4 < 65536 := by omega
  have HD4 := Lib.hid hd4
  clear hd4
  obtain ⟨e3, he3⟩ : ∃ z, (v.tdiv 64) % 3 = z := ⟨_, rfl⟩
  have e3l : 0 ≤ e3 := by omega
  have e3h : e3 < 3 := by omega
  have HE3 := Lib.hid he3
  have h4 : ¬ e3 = 0 := by rw [← he3]; exact hv'
  have hb4 : (e3 == 0) = false := by simpa using h4
  clear hv'
  clear he3
  obtain ⟨d5, hd5⟩ : ∃ z, (k.tdiv 16) % 20 = z := ⟨_, rfl⟩
  have d5l : 0 ≤ d5 := by omega
  have d5h : d5 < 20 := by omega
  have HD5 := Lib.hid hd5
  clear hd5
  have HQ := Lib.hid hq
  clear hq
  all_goals
    refine ⟨15, d1, (1 + d2), 0, 0, 0, ((1 + d2).toNat), 0, 0, 0, 0, 0, upB v ((1 + d2).toNat), [], ⟨⟨rfl, by unfold plainP; omega, by omega, by omega, by have m1 : kMostR 15 = 0 := rfl; have m2 : kMostW 15 = 1968 := rfl; unfold fitsP; omega⟩, wide_of (by omega) (by omega) (by omega) (by omega) (by omega) (by omega) (by omega) (by omega) (by omega), (by intro x hx; cases hx), upB_length _ _, rfl⟩, fun w => ?_⟩
    go_enter Try.func22, Try.ntmps22
    go_wp2_with (first
      | (go_at_call 28; (with_reducible refine (digit_lit k 16 40 _ _ HD1.out k0 k1 (by omega) (by omega) (by omega) (by omega)).mono ?_); rintro e w' ⟨rfl, rfl⟩)
      | (go_at_call 28; (with_reducible refine (digit_lit k 640 6 _ _ HD2.out k0 k1 (by omega) (by omega) (by omega) (by omega)).mono ?_); rintro e w' ⟨rfl, rfl⟩)
      | (go_at_call 28; (with_reducible refine (digit_lit k 3840 12 _ _ HD3.out k0 k1 (by omega) (by omega) (by omega) (by omega)).mono ?_); rintro e w' ⟨rfl, rfl⟩)
      | (go_at_call 28; (with_reducible refine (digit_lit k 46080 65536 _ _ HD4.out k0 k1 (by omega) (by omega) (by omega) (by omega)).mono ?_); rintro e w' ⟨rfl, rfl⟩)
      | (go_at_call 11; (with_reducible refine (within_lit k 16 _ _ HQ.out k0 k1 (by omega) (by omega)).mono ?_); rintro e w' ⟨rfl, rfl⟩)
      | (go_at_call 28; (with_reducible refine (digit_lit v 64 3 _ _ HE3.out v0 v1 (by omega) (by omega) (by omega) (by omega)).mono ?_); rintro e w' ⟨rfl, rfl⟩)
      | (go_at_call 28; (with_reducible refine (digit_lit k 16 20 _ _ HD5.out k0 k1 (by omega) (by omega) (by omega) (by omega)).mono ?_); rintro e w' ⟨rfl, rfl⟩))
    go_loopw [8] (fun i wr => ∃ (j : Nat) (B : Option Addr) (d : Nat), j ≤ (1 + d2).toNat ∧ i = .int .i64 (j : Int) ∧ Hid (WholeV wr (w.heap.size + 1) 51 [.int .i64 15, .int .i64 d1, .int .i64 (1 + d2), .int .u16 0, .int .u16 0, .int .u16 0, .slice B j d, .slice none 0 0, .int .i64 0, .int .i64 0, .int .i64 0, .int .i64 0]) ∧ Hid (WholeV wr w.heap.size 51 [.int .i64 0, .int .i64 0, .int .i64 0, .int .u16 0, .int .u16 0, .int .u16 0, .slice none 0 0, .slice none 0 0, .int .i64 0, .int .i64 0, .int .i64 0, .int .i64 0]) ∧ Hid (wr.ownsRow (w.heap.size + 2) 4 1 (.slice B j d) j ((upB v j).map Value.bool)) ∧ Hid (Below w.heap.size w wr)) (fun i _ => (1 + d2).toNat - (intOf i).toNat)
    case atStart =>
      have hs0 : (w.alloc (.cells #[.int .i64 0, .int .i64 0, .int .i64 0, .int .u16 0, .int .u16 0, .int .u16 0, .slice none 0 0, .slice none 0 0, .int .i64 0, .int .i64 0, .int .i64 0, .int .i64 0] 51)).heap.size = w.heap.size + 1 := by simp
      have hk0 : WholeV (w.alloc (.cells #[.int .i64 0, .int .i64 0, .int .i64 0, .int .u16 0, .int .u16 0, .int .u16 0, .slice none 0 0, .slice none 0 0, .int .i64 0, .int .i64 0, .int .i64 0, .int .i64 0] 51)) w.heap.size 51 [.int .i64 0, .int .i64 0, .int .i64 0, .int .u16 0, .int .u16 0, .int .u16 0, .slice none 0 0, .slice none 0 0, .int .i64 0, .int .i64 0, .int .i64 0, .int .i64 0] := heap_alloc_new w _
      have hk1 := heap_alloc_new (w.alloc (.cells #[.int .i64 0, .int .i64 0, .int .i64 0, .int .u16 0, .int .u16 0, .int .u16 0, .slice none 0 0, .slice none 0 0, .int .i64 0, .int .i64 0, .int .i64 0, .int .i64 0] 51)) (.cells #[.int .i64 15, .int .i64 d1, .int .i64 (1 + d2), .int .u16 0, .int .u16 0, .int .u16 0, .slice none 0 0, .slice none 0 0, .int .i64 0, .int .i64 0, .int .i64 0, .int .i64 0] 51)
      rw [hs0] at hk1
      exact ⟨0, none, 0, by omega, rfl, hk1, hk0.below ((Below.refl _ _).alloc (Nat.le_refl _) _) (by simp), own_none _ _ _, ((Below.refl _ _).alloc (Nat.le_refl _) _).alloc (by simp) _⟩
    case round =>
      obtain ⟨j, B, d, hj, rfl, HO, HZ, HK, HB⟩ := hrel
      have hz5 : w.heap.size + 2 ≤ wr.heap.size := HO.out.lt
      by_cases hlt : j < (1 + d2).toNat
      · have hi : (j : Int) < 1 + d2 := by omega
        have hc6 := HO.out.cell 6
        have hf6 := HO.out.frozen 6
        have hc6' : wr.cell? ⟨w.heap.size + 1, 6, none⟩ = some (.slice B j d) := hc6
        obtain ⟨z, hz⟩ : ∃ z, v % (7 + (j : Int)) = z := ⟨_, rfl⟩
        have z0 : 0 ≤ z := by rw [← hz]; exact Int.emod_nonneg _ (by omega)
        have z1 : z < 7 + (j : Int) := by rw [← hz]; exact Int.emod_lt_of_pos _ (by omega)
        have zt : z.tmod 2 = z % 2 := Int.tmod_eq_emod_of_nonneg z0
        have wj : IntKind.i64.wrap (7 + (j : Int)) = 7 + (j : Int) := IntWalk.i64_in _ (by omega)
        have hc6a : (wr.alloc (.cells #[.bool (z % 2 == 1)] 4)).cell? ⟨w.heap.size + 1, 6, none⟩ = some (.slice B j d) := (World.cell?_alloc_lt wr _ ⟨w.heap.size + 1, 6, none⟩ hz5).trans hc6'
        have HZv := Lib.hid hz
        clear hz hc6
        have HU : Hid ((upB v j).map Value.bool ++ [.bool (z % 2 == 1)] = (upB v (j + 1)).map Value.bool) := by rw [upB_succ, HZv.out, List.map_append]; rfl
        go_wp2_with fail
        go_region_law (first
          | (refine step_append_to (.tmp 86) (.tmp 93) 26 (w.heap.size + 2) 4 (.bool false) 1 Try.underlying26 infoBool rfl (.slice B j d) j ((upB v j).map Value.bool) 1 [.bool (z % 2 == 1)] (j + 1) ((upB v (j + 1)).map Value.bool) rfl HU.out (by simp [Value.oneCell']) (by omega) (by omega) ?_ ?_ ?_ ?_ ?_
             · exact ⟨rfl, rfl, rfl⟩
             · first | exact HK.out.alloc _ | exact (HK.out.alloc _).drew | exact HK.out.drew.alloc _
             · first
                 | exact ⟨_, _, rfl, built_row _ _ [.bool (z % 2 == 1)] _ (Below.refl _ _)⟩
                 | exact ⟨_, _, rfl, built_row _ _ [.bool (z % 2 == 1)] _ (Below.refl _ _).drew⟩
             · simp; omega
             intro A8 c8 w8 ho8 hg8
             have hO8 : WholeV w8 (w.heap.size + 1) 51 [.int .i64 15, .int .i64 d1, .int .i64 (1 + d2), .int .u16 0, .int .u16 0, .int .u16 0, .slice B j d, .slice none 0 0, .int .i64 0, .int .i64 0, .int .i64 0, .int .i64 0] := by
               first
                 | exact whole_grown (w := (wr.alloc (.cells #[.bool (z % 2 == 1)] 4)).drew) (HO.out.alloc _) hg8 (own_ne HK.out (by omega))
                 | exact whole_grown (HO.out.alloc _) hg8 (own_ne HK.out (by omega))
             have hZ8 : WholeV w8 w.heap.size 51 [.int .i64 0, .int .i64 0, .int .i64 0, .int .u16 0, .int .u16 0, .int .u16 0, .slice none 0 0, .slice none 0 0, .int .i64 0, .int .i64 0, .int .i64 0, .int .i64 0] := by
               first
                 | exact whole_grown (w := (wr.alloc (.cells #[.bool (z % 2 == 1)] 4)).drew) (HZ.out.alloc _) hg8 (own_ne HK.out (by omega))
                 | exact whole_grown (HZ.out.alloc _) hg8 (own_ne HK.out (by omega))
             have hB8 : Below w.heap.size w w8 := by
               first
                 | exact below_append (HB.out.alloc HB.out.size _) (own_mono (HK.out.alloc _) (by omega)) hg8 (by simp; omega)
                 | exact below_append (HB.out.alloc HB.out.size _).drew (own_mono (HK.out.alloc _).drew (by omega)) hg8 (by simp; omega)
             have hc8 : w8.cell? ⟨w.heap.size + 1, 6, none⟩ = some (.slice B j d) := hO8.cell 6
             have hf8 := hO8.frozen 6
             have HO8 := Lib.hid hO8
             have HZ8 := Lib.hid hZ8
             have HB8 := Lib.hid hB8
             have HK8 := Lib.hid ho8
             clear hO8 hZ8 hB8 ho8 hg8)
          | (go_simp; go_at_call 11; (with_reducible refine (within_lit v (7 + (j : Int)) z _ HZv.out v0 v1 (by omega) (by omega)).mono ?_); rintro e w' ⟨rfl, rfl⟩))
        all_goals
          go_wp2
          go_roundw
          case rel =>
            refine ⟨j + 1, A8, c8, by omega, by go_num, ?_, ?_, ?_, ?_⟩
            · exact HO8.out.set 6 (.slice A8 (j + 1) c8)
            · exact HZ8.out.below ((Below.refl (w.heap.size + 1) _).setCell (p := ⟨w.heap.size + 1, 6, none⟩) (Nat.le_refl _) _) (Nat.lt_succ_self _)
            · exact own_far HK8.out ⟨w.heap.size + 1, 6, none⟩ (Nat.lt_succ_self _) _
            · exact HB8.out.setCell (p := ⟨w.heap.size + 1, 6, none⟩) (Nat.le_succ _) _
          case measure => simp [intOf]; omega
      · obtain rfl : j = (1 + d2).toNat := by omega
        have hge : ¬ ((((1 + d2).toNat : Nat) : Int) < 1 + d2) := by omega
        obtain ⟨hq0, hq1, hq2, hq3, hq4, hq5, hq6, hq7, hq8, hq9, hq10, hq11⟩ := cells12 HO.out
        obtain ⟨hp0, hp1, hp2, hp3, hp4, hp5, hp6, hp7, hp8, hp9, hp10, hp11⟩ := cells12 HZ.out
        have hg0 := HZ.out.frozen 0
        have hg1 := HZ.out.frozen 1
        have hg2 := HZ.out.frozen 2
        have hg3 := HZ.out.frozen 3
        have hg4 := HZ.out.frozen 4
        have hg5 := HZ.out.frozen 5
        have hg6 := HZ.out.frozen 6
        have hg7 := HZ.out.frozen 7
        have hg8 := HZ.out.frozen 8
        have hg9 := HZ.out.frozen 9
        have hg10 := HZ.out.frozen 10
        have hg11 := HZ.out.frozen 11
        go_wp2
        obtain ⟨w9, hw9⟩ : ∃ w9, ((((((((((((wr.setCell ⟨w.heap.size, 0, none⟩ (.int .i64 15)).setCell ⟨w.heap.size, 1, none⟩ (.int .i64 d1)).setCell ⟨w.heap.size, 2, none⟩ (.int .i64 (1 + d2))).setCell ⟨w.heap.size, 3, none⟩ (.int .u16 0)).setCell ⟨w.heap.size, 4, none⟩ (.int .u16 0)).setCell ⟨w.heap.size, 5, none⟩ (.int .u16 0)).setCell ⟨w.heap.size, 6, none⟩ (.slice B ((1 + d2).toNat) d)).setCell ⟨w.heap.size, 7, none⟩ (.slice none 0 0)).setCell ⟨w.heap.size, 8, none⟩ (.int .i64 0)).setCell ⟨w.heap.size, 9, none⟩ (.int .i64 0)).setCell ⟨w.heap.size, 10, none⟩ (.int .i64 0)).setCell ⟨w.heap.size, 11, none⟩ (.int .i64 0)) = w9 := ⟨_, rfl⟩
        have hwh := all12 HZ.out (.int .i64 15) (.int .i64 d1) (.int .i64 (1 + d2)) (.int .u16 0) (.int .u16 0) (.int .u16 0) (.slice B ((1 + d2).toNat) d) (.slice none 0 0) (.int .i64 0) (.int .i64 0) (.int .i64 0) (.int .i64 0) rfl
        have hbb := bel12 HB.out (.int .i64 15) (.int .i64 d1) (.int .i64 (1 + d2)) (.int .u16 0) (.int .u16 0) (.int .u16 0) (.slice B ((1 + d2).toNat) d) (.slice none 0 0) (.int .i64 0) (.int .i64 0) (.int .i64 0) (.int .i64 0)
        have ho9 : w9.ownsRow (w.heap.size + 2) 4 1 (.slice B ((1 + d2).toNat) d) ((1 + d2).toNat) ((upB v ((1 + d2).toNat)).map Value.bool) := by rw [← hw9]; exact (own_far (own_far (own_far (own_far (own_far (own_far (own_far (own_far (own_far (own_far (own_far (own_far HK.out ⟨w.heap.size, 0, none⟩ (Nat.lt_succ_of_lt (Nat.lt_succ_self _)) (.int .i64 15)) ⟨w.heap.size, 1, none⟩ (Nat.lt_succ_of_lt (Nat.lt_succ_self _)) (.int .i64 d1)) ⟨w.heap.size, 2, none⟩ (Nat.lt_succ_of_lt (Nat.lt_succ_self _)) (.int .i64 (1 + d2))) ⟨w.heap.size, 3, none⟩ (Nat.lt_succ_of_lt (Nat.lt_succ_self _)) (.int .u16 0)) ⟨w.heap.size, 4, none⟩ (Nat.lt_succ_of_lt (Nat.lt_succ_self _)) (.int .u16 0)) ⟨w.heap.size, 5, none⟩ (Nat.lt_succ_of_lt (Nat.lt_succ_self _)) (.int .u16 0)) ⟨w.heap.size, 6, none⟩ (Nat.lt_succ_of_lt (Nat.lt_succ_self _)) (.slice B ((1 + d2).toNat) d)) ⟨w.heap.size, 7, none⟩ (Nat.lt_succ_of_lt (Nat.lt_succ_self _)) (.slice none 0 0)) ⟨w.heap.size, 8, none⟩ (Nat.lt_succ_of_lt (Nat.lt_succ_self _)) (.int .i64 0)) ⟨w.heap.size, 9, none⟩ (Nat.lt_succ_of_lt (Nat.lt_succ_self _)) (.int .i64 0)) ⟨w.heap.size, 10, none⟩ (Nat.lt_succ_of_lt (Nat.lt_succ_self _)) (.int .i64 0)) ⟨w.heap.size, 11, none⟩ (Nat.lt_succ_of_lt (Nat.lt_succ_self _)) (.int .i64 0))
        rw [hw9] at hwh hbb
        rw [hw9]
        obtain ⟨he0, he1, he2, he3, he4, he5, he6, he7, he8, he9, he10, he11⟩ := cells12 hwh
        refine bodyPost_ret (v := .agg #[.int .i64 15, .int .i64 d1, .int .i64 (1 + d2), .int .u16 0, .int .u16 0, .int .u16 0, .slice B ((1 + d2).toNat) d, .slice none 0 0, .int .i64 0, .int .i64 0, .int .i64 0, .int .i64 0]) (by simp [results, Try.results22, go_sem, he0, he1, he2, he3, he4, he5, he6, he7, he8, he9, he10, he11]) rfl ⟨B, none, d, 0, rfl, own_mono ho9 (by omega), own_none _ _ _, hbb⟩

end Go.Proofs.Ythmendcdfhlkkaa

/- Package flow: New; chapter 10's example. No statement is proved here. -/
import Derived.Test.YthmendcdfhlkkaaFlow2
namespace Go.Proofs.Ythmendcdfhlkkaa
open Go.ChangeShapes Go.WideShapes Go.ChangeAt Go.RowKit
set_option linter.unusedVariables false
set_option linter.unusedSimpArgs false

/-- A new flow was returned. -/
def NewF (M : Nat) (w : World) (e : Ending) (w' : World) : Prop := ∃ g p, e = .returned (.pointer (some ⟨g, 0, none⟩)) ∧ FAt w' g p M 0 [] false ∧ w.heap.size ≤ g ∧ w.heap.size ≤ p ∧ Below w.heap.size w w'
theorem newf_made (M : Nat) (hM : M ≤ 65536) (w w2 : World) (p : Nat) (pl : List Int) (hp : w.heap.size < p) (hw : Whole .u8 w2 p 5 pl) (hl : pl.length = M) (hb : Below w.heap.size w w2) :
    NewF M w (.returned (.pointer (some ⟨w2.heap.size, 0, none⟩))) (w2.alloc (.cells #[.slice (some ⟨p, 0, none⟩) M M, .int .i64 0, .int .i64 0, .bool false] 123)) := by
  have hlt := hw.lt
  exact ⟨_, p, rfl, ⟨⟨by omega, hM, heap_alloc_new w2 _, pl, hw.below ((Below.refl _ _).alloc (Nat.le_refl _) _) hlt, hl, by simp, by omega, fun h => h, fun j hj => (by simp at hj)⟩, fun e => (by cases e), fun x hx => (by simp at hx)⟩, hb.size, Nat.le_of_lt hp, hb.alloc hb.size _⟩

set_option maxHeartbeats 1000000 in
theorem fnew_any (most : Int) (M : Nat) (w : World) (h0 : -9223372036854775808 ≤ most) (h1 : most ≤ 9223372036854775807) (hM : (M : Int) = if 65536 < (if most < 260 then 260 else most) then 65536 else (if most < 260 then 260 else most)) :
    Calls Try.prog 25 #[.int .i64 most] w (NewF M w) := by
  have hM2 : M ≤ 65536 := by split at hM <;> split at hM <;> omega
  have HN := Lib.hid (newf_made M hM2 w)
  have CN : Hid (∀ K : Int, K = (M : Int) → Calls Try.prog 69 #[.int .i64 K] w (NewQ M w)) := by
    intro K e
    subst e
    exact newq_any (M : Int) M w (by omega) (by omega) (by rw [if_neg (show ¬ (M : Int) < 0 by omega), if_neg (show ¬ (65536 : Int) < (M : Int) by omega)])
  by_cases hn : most < 260
  · have hk : (260 : Int) = (M : Int) := by rw [hM, if_pos hn]; rfl
    have C1 := Lib.hid (CN.out 260 hk)
    clear hM hM2 h0 hk CN
    go_enter Try.func25, Try.ntmps25
    go_wp2_with (
      (go_at_call 69
       (with_reducible refine C1.out.mono ?_)
       rintro e w2 ⟨p, pl, rfl, hp, hpl, hl, hb⟩
       have H9 := Lib.hid (HN.out w2 p pl hp hpl hl hb)
       clear hp hpl hl hb))
    go_ret
    exact H9.out
  · by_cases hx : 65536 < most
    · have hk : (65536 : Int) = (M : Int) := by rw [hM, if_neg hn, if_pos hx]
      have C1 := Lib.hid (CN.out 65536 hk)
      clear hM hM2 h0 hk CN
      go_enter Try.func25, Try.ntmps25
      go_wp2_with (
        (go_at_call 69
         (with_reducible refine C1.out.mono ?_)
         rintro e w2 ⟨p, pl, rfl, hp, hpl, hl, hb⟩
         have H9 := Lib.hid (HN.out w2 p pl hp hpl hl hb)
         clear hp hpl hl hb))
      go_ret
      exact H9.out
    · have hk : most = (M : Int) := by rw [hM, if_neg hn, if_neg hx]
      have C1 := Lib.hid (CN.out most hk)
      clear hM hM2 h0 hk CN
      go_enter Try.func25, Try.ntmps25
      go_wp2_with (
        (go_at_call 69
         (with_reducible refine C1.out.mono ?_)
         rintro e w2 ⟨p, pl, rfl, hp, hpl, hl, hb⟩
         have H9 := Lib.hid (HN.out w2 p pl hp hpl hl hb)
         clear hp hpl hl hb))
      go_ret
      exact H9.out

theorem aw_more : nQ false ([] ++ List.take 4 [0, 1, 0, 0]) = [0, 1, 0, 0] ∧ nM false ([] ++ List.take 4 [0, 1, 0, 0]) 300 = 300 ∧ nD false ([] ++ List.take 4 [0, 1, 0, 0]) = false ∧ gE false ([] ++ List.take 4 [0, 1, 0, 0]) = 3 ∧ cT ([] ++ List.take 4 [0, 1, 0, 0]) = 0 ∧ cU ([] ++ List.take 4 [0, 1, 0, 0]) = 0 ∧ cM ([] ++ List.take 4 [0, 1, 0, 0]) = 0 := by decide +kernel
theorem aw_ok : nQ false ([0, 1, 0, 0] ++ List.take 4 [0, 2, 9, 7]) = [] ∧ gE false ([0, 1, 0, 0] ++ List.take 4 [0, 2, 9, 7]) = 0 ∧ cT ([0, 1, 0, 0] ++ List.take 4 [0, 2, 9, 7]) = 1 ∧ cU ([0, 1, 0, 0] ++ List.take 4 [0, 2, 9, 7]) = 9 ∧ cM ([0, 1, 0, 0] ++ List.take 4 [0, 2, 9, 7]) = 1 ∧ cP ([0, 1, 0, 0] ++ List.take 4 [0, 2, 9, 7]) = [7] ∧ strOfNums [7] = ⟨#[7]⟩ := by decide +kernel
theorem aw_b1 : Bytes8 [0, 1, 0, 0] := by unfold Bytes8; decide
theorem aw_b2 : Bytes8 [0, 2, 9, 7] := by unfold Bytes8; decide

set_option maxRecDepth 100000 in
set_option maxHeartbeats 1000000 in
theorem awake10_any (w : World) : Calls Try.prog 24 #[] w fun e w' => e = .returned (.bool true) ∧ Below w.heap.size w w' := by
  go_enter Try.func24, Try.ntmps24
  go_wp2_with (first
    | (go_at_call 25
       refine (fnew_any 300 300 _ (by omega) (by omega) (by decide)).mono ?_
       rintro e w1 ⟨g, p, rfl, hr, hg, hp, hb⟩
       have HB1 := Lib.hid hb
       have HGP := Lib.hid (And.intro hg hp)
       have HLT1 := Lib.hid hr.q.lt
       have C2 := Lib.hid (feed_any (w1.alloc (.cells #[.int .u8 0, .int .u8 1, .int .u8 0, .int .u8 0] 5)) g p 300 0 [] false (some ⟨w1.heap.size, 0, none⟩) 4 4 [0, 1, 0, 0] 4 (hr.below ((Below.refl _ _).alloc (Nat.le_refl _) _)) aw_b1 (built_off w1 _ [0, 1, 0, 0] (by have := hr.q.lt; unfold GP; omega)) (by omega) (by omega) (show 4 = min 4 (300 - 0) by omega))
       clear hr hg hp hb)
    | (go_at_call 29
       (with_reducible refine C2.out.mono ?_)
       rintro e w2 ⟨rfl, hr, ho⟩
       have HB2 : Hid (Below w.heap.size w w2) := below_gp (HB1.out.alloc HB1.out.size _) (by have := HB1.out.size; simp; omega) ho HGP.out.1 HGP.out.2
       have C3 := Lib.hid (next_any w2 g p 300 0 _ false hr)
       clear hr ho)
    | (go_at_call 31
       (with_reducible refine C3.out.mono ?_)
       rintro e w3 ⟨B, k, rfl, _, ⟨f', p', hr, hp'⟩, ho⟩
       have HB3 : Hid (Below w.heap.size w w3) := below_gp HB2.out HB2.out.size ho HGP.out.1 HGP.out.2
       obtain ⟨hq, hm, hd, he, et, eu, em⟩ := aw_more
       rw [hq, hm, hd] at hr
       rw [he, et, eu, em]
       have hp2 : w.heap.size ≤ p' := by have h1 := HGP.out.2; have h2 := HB2.out.size; rcases hp' with h | h <;> omega
       have HGP3 : Hid (w.heap.size ≤ g ∧ w.heap.size ≤ p') := ⟨HGP.out.1, hp2⟩
       have hs3 := HB3.out.size
       have hl3 := hr.q.lt
       have hbo := built_off (w3.alloc (.cells #[.int .i64 0, .int .i64 0, .slice B 0 k] 64)) (GP g p') [0, 2, 9, 7] (by unfold GP; simp; omega)
       rw [show (w3.alloc (.cells #[.int .i64 0, .int .i64 0, .slice B 0 k] 64)).heap.size = w3.heap.size + 1 by simp] at hbo
       have C4 := Lib.hid (feed_any ((w3.alloc (.cells #[.int .i64 0, .int .i64 0, .slice B 0 k] 64)).alloc (.cells #[.int .u8 0, .int .u8 2, .int .u8 9, .int .u8 7] 5)) g p' 300 f' [0, 1, 0, 0] false (some ⟨w3.heap.size + 1, 0, none⟩) 4 4 [0, 2, 9, 7] 4 (hr.below (((Below.refl _ _).alloc (Nat.le_refl _) _).alloc (by simp) _)) aw_b2 hbo (by omega) (by omega) (show 4 = min 4 (300 - 4) by omega))
       clear hr ho hq hm hd he hp2 hp' et eu em hs3 hl3 hbo)
    | (go_at_call 29
       (with_reducible refine C4.out.mono ?_)
       rintro e w4 ⟨rfl, hr, ho⟩
       have HB4 : Hid (Below w.heap.size w w4) := below_gp ((HB3.out.alloc HB3.out.size _).alloc (by have := HB3.out.size; simp; omega) _) (by have := HB3.out.size; simp; omega) ho HGP3.out.1 HGP3.out.2
       have C5 := Lib.hid (next_any w4 g p' 300 f' _ false hr)
       clear hr ho)
    | (go_at_call 31
       (with_reducible refine C5.out.mono ?_)
       rintro e w5 ⟨B5, k5, rfl, ho5, ⟨f5, p5, hr, hp'⟩, ho⟩
       have HB5 : Hid (Below w.heap.size w w5) := below_gp HB4.out HB4.out.size ho HGP3.out.1 HGP3.out.2
       obtain ⟨hq, he, et, eu, em, ep, hst⟩ := aw_ok
       rw [hq] at hr
       rw [em, ep] at ho5
       rw [he, et, eu, em]
       have HR5 := Lib.hid (fun o => hr.below ((Below.refl w5.heap.size w5).alloc (Nat.le_refl _) o))
       have hcv := fun o => conv_row B5 1 k5 [7] (w5.alloc o) (((own_row ho5).ints.below ((Below.refl w5.heap.size w5).alloc (Nat.le_refl _) o)).more (by simp))
       rw [hst] at hcv
       clear hr ho hq he et eu em ep hp' ho5 hst)
    | (go_at_call 33
       refine (fheld_any _ g p5 _ f5 [] _ (HR5.out _)).mono ?_
       rintro e w6 ⟨rfl, rfl⟩))
  go_ret
  exact ⟨rfl, HB5.out.alloc HB5.out.size _⟩

end Go.Proofs.Ythmendcdfhlkkaa

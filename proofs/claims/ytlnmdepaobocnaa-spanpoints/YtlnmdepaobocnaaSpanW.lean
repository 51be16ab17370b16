/- The program's spans: swap (others in place of a part). No statement is proved here. -/
import Derived.Test.YtlnmdepaobocnaaWideAt
namespace Go.Proofs.Ytlnmdepaobocnaa
open Go.ChangeShapes Go.WideShapes Go.ChangeAt Go.RowKit
set_option linter.unusedVariables false
set_option linter.unusedSimpArgs false

theorem heap_of {w : World} {g : Nat} {T : TypeId} {vs : List Value} (h : WholeV w g T vs) : w.heap[g]? = some (.cells vs.toArray T (0, 0)) := h
theorem whole_drew {w : World} {g : Nat} {T : TypeId} {vs : List Value} (h : WholeV w g T vs) : WholeV w.drew g T vs := h
theorem splice3 {α : Type} (L a b c : List α) (k k2 : Nat) (h1 : k = a.length) (h2 : k2 = a.length + b.length) (h3 : a.length + b.length + c.length = L.length) : splice (splice (splice L 0 a) k b) k2 c = a ++ (b ++ c) := by
  subst h1 h2
  unfold splice
  simp only [List.take_zero, List.nil_append, Nat.zero_add]
  rw [List.take_left, ← List.append_assoc a b, List.take_left' (by simp), List.drop_of_length_le (by simp; omega)]
  simp only [List.append_nil, List.append_assoc]
theorem SL.src {w : World} {A : Option Addr} {n : Nat} {l : List Sp} (h : SL w A n l) (i m : Nat) (hm : 0 < m) (him : i + m ≤ n) : ∃ b off, A = some ⟨b, off, none⟩ ∧ b < w.heap.size ∧ ∀ j v, (sps ((l.drop i).take m))[j]? = some v → w.cell? ⟨b, off + i * 3 + j, none⟩ = some v := by
  have hl := h.len
  obtain ⟨b, off, hA, hb, hc⟩ := h.2 (by omega)
  refine ⟨b, off, hA, hb, fun j v hv => ?_⟩
  have hj : j < 3 * m := by
    have := (List.getElem?_eq_some_iff.1 hv).1
    rw [sps_length, List.length_take, List.length_drop] at this
    omega
  rw [sps_take, sps_drop, List.getElem?_take, if_pos (by omega), List.getElem?_drop] at hv
  rw [Nat.add_assoc, hc _ (by omega), ← hv, Nat.mul_comm i 3]

set_option maxRecDepth 100000 in
set_option maxHeartbeats 4000000 in
theorem swap_any (A B : Option Addr) (n c m d i j : Nat) (l os : List Sp) (w : World) (hl : SL w A n l) (ho : SL w B m os) (hij : i ≤ j) (hjn : j ≤ n) (hnc : n ≤ c) (hn : n ≤ 100000) (hm : m ≤ 100000) :
    Calls Try.prog 36 #[.slice A n c, .int .i64 i, .int .i64 j, .slice B m d] w fun e w' => (∃ A' k c', e = .returned (.slice A' k c') ∧ SO w' w.heap.size (.slice A' k c') k (l.take i ++ (os ++ l.drop j))) ∧ Below w.heap.size w w' := by
  obtain ⟨N, hN⟩ : ∃ N, i + m + (n - j) = N := ⟨_, rfl⟩
  obtain ⟨p, hp⟩ : ∃ p, i + m = p := ⟨_, rfl⟩
  have hpz : (i : Int) + (m : Int) = (p : Int) := by omega
  have hpN : p ≤ N := by omega
  have hiN : i ≤ N := by omega
  have hNz : (p : Int) + (n : Int) - (j : Int) = (N : Int) := by omega
  have hmk := make_sps N N (Nat.le_refl _) (by omega)
  have hiz : (i : Int) ≤ (j : Int) := by omega
  have hjz : (j : Int) ≤ (n : Int) := by omega
  have hnz : (n : Int) ≤ (c : Int) := by omega
  have hn1 : (n : Int) ≤ 100000 := by omega
  have hm1 : (m : Int) ≤ 100000 := by omega
  have hl0 := hl.len
  have ho0 := ho.len
  obtain ⟨W, hW⟩ : ∃ W, w.alloc (.cells (sps (List.replicate N sp0)).toArray 23) = W := ⟨_, rfl⟩
  have hwW : Below w.heap.size w W := by rw [← hW]; exact (Below.refl _ _).alloc (Nat.le_refl _) _
  have hG : WholeV W w.heap.size 23 (sps (List.replicate N sp0)) := by rw [← hW]; exact heap_alloc_new w _
  have hmk' := hmk w
  rw [hW] at hmk'
  have hlW := hl.below hwW
  have hoW := ho.below hwW
  have H1n : Hid (i = Nat.min i N) := Lib.hid (Nat.min_eq_left (by omega)).symm
  have H1l : Hid ((sps (l.take i)).length = i * 3) := Lib.hid (by rw [sps_length, List.length_take]; omega)
  have H1p : Hid (0 < i → ∃ ad, A = some ad ∧ ∀ j v, (sps (l.take i))[j]? = some v → W.cell? (ad.add j) = some v) := Lib.hid fun h0 => by
    obtain ⟨b, off, hA, hb, hc⟩ := hlW.src 0 i h0 (by omega)
    exact ⟨_, hA, fun j v hv => by have := hc j v (by rw [List.drop_zero]; exact hv); rw [Nat.zero_mul, Nat.add_zero] at this; rw [add_none]; exact this⟩
  have H1f : Hid (0 + (sps (l.take i)).length ≤ (sps (List.replicate N sp0)).length) := Lib.hid (by rw [sps_length, sps_length, List.length_take, List.length_replicate]; omega)
  obtain ⟨X1, hX1⟩ : ∃ X1, sps (l.take i) = X1 := ⟨_, rfl⟩
  obtain ⟨X2, hX2⟩ : ∃ X2, sps os = X2 := ⟨_, rfl⟩
  obtain ⟨X3, hX3⟩ : ∃ X3, sps (l.drop j) = X3 := ⟨_, rfl⟩
  obtain ⟨X0, hX0⟩ : ∃ X0, sps (List.replicate N sp0) = X0 := ⟨_, rfl⟩
  have e1 : X1.length = i * 3 := by rw [← hX1, sps_length, List.length_take]; omega
  have e2 : X2.length = m * 3 := by rw [← hX2, sps_length]; omega
  have e3 : X3.length = (n - j) * 3 := by rw [← hX3, sps_length, List.length_drop]; omega
  have e0 : X0.length = N * 3 := by rw [← hX0, sps_length, List.length_replicate]; omega
  have o1 : ∀ v ∈ X1, v.oneCell' = true := by rw [← hX1]; exact sps_one _
  have o2 : ∀ v ∈ X2, v.oneCell' = true := by rw [← hX2]; exact sps_one _
  have o3 : ∀ v ∈ X3, v.oneCell' = true := by rw [← hX3]; exact sps_one _
  have s2 : Hid (∀ X, Below w.heap.size w X → 0 < m → ∃ ad, B = some ad ∧ ∀ j v, X2[j]? = some v → X.cell? (ad.add j) = some v) := Lib.hid fun X hX h0 => by
    obtain ⟨b, off, hA, hb, hc⟩ := (ho.below hX).src 0 m h0 (by omega)
    rw [List.drop_zero, List.take_of_length_le (by omega), hX2] at hc
    exact ⟨_, hA, fun j v hv => by have := hc j v hv; rw [Nat.zero_mul, Nat.add_zero] at this; rw [add_none]; exact this⟩
  have s3 : Hid (∀ X, Below w.heap.size w X → 0 < n - j → ∃ ad, A.map (·.add (j * 3)) = some ad ∧ ∀ k v, X3[k]? = some v → X.cell? (ad.add k) = some v) := Lib.hid fun X hX h0 => by
    obtain ⟨b, off, hA, hb, hc⟩ := (hl.below hX).src j (n - j) h0 (by omega)
    rw [List.take_of_length_le (by rw [List.length_drop]; omega), hX3] at hc
    refine ⟨⟨b, off + j * 3, none⟩, by rw [hA, Option.map_some, add_none], fun k v hv => ?_⟩
    rw [add_none]; exact hc k v hv
  have hfin : Hid (splice (splice (splice X0 0 X1) (i * 3) X2) (p * 3) X3 = sps (l.take i ++ (os ++ l.drop j))) := Lib.hid (by
    rw [sps_append, sps_append, hX1, hX2, hX3]
    exact splice3 X0 X1 X2 X3 _ _ (by omega) (by omega) (by omega))
  rw [hX0] at hG
  rw [hX1] at H1p
  have HG := Lib.hid hG
  have HWW := Lib.hid hwW
  have H1 := Lib.hid e1
  have H2 := Lib.hid e2
  have H3 := Lib.hid e3
  have H0 := Lib.hid e0
  have P1 := Lib.hid o1
  have P2 := Lib.hid o2
  have P3 := Lib.hid o3
  have HN := Lib.hid hN
  have HP := Lib.hid hp
  have HLN : Hid ((l.take i ++ (os ++ l.drop j)).length = N) := Lib.hid (by simp only [List.length_append, List.length_take, List.length_drop]; omega)
  have HE : Hid (∀ X, WholeV X w.heap.size 23 (splice (splice (splice X0 0 X1) (i * 3) X2) (p * 3) X3) → Below w.heap.size w X → (∃ A' k c', Ending.returned (Value.slice (some ⟨w.heap.size, 0, none⟩) N N) = .returned (.slice A' k c') ∧ SO X w.heap.size (.slice A' k c') k (l.take i ++ (os ++ l.drop j))) ∧ Below w.heap.size w X) := Lib.hid fun X hX hb => by
    rw [hfin.out] at hX
    exact ⟨⟨_, _, _, rfl, so_of_whole (vs := []) (by rw [List.append_nil]; exact hX) (Nat.le_refl _) HLN.out (by simp) (Nat.le_refl _) (by omega)⟩, hb⟩
  clear hl ho hl0 ho0 hlW hoW hW hwW hG hmk H1f H1l hX1 hX2 hX3 hX0 e1 e2 e3 e0 o1 o2 o3
  have HX0 : Hid (i + m = p ∧ N = p + (n - j)) := Lib.hid ⟨hp, by omega⟩
  by_cases hNi : N = i
  · obtain rfl : m = 0 := by omega
    obtain rfl : j = n := by omega
    obtain rfl : p = i := by omega
    obtain rfl : N = p := by omega
    clear hN hp hNi
    by_cases hcj : c = j
    · subst hcj
      go_enter Try.func36, Try.ntmps36
      go_wp2_with (first
        | ((with_reducible refine wpList_copy_wat (o := ⟨some 25, _, _, _, _, _⟩) rfl _ _ 24 24 rfl 23 3 Try.underlying24 (by kernel_rfl) _ _ _ _ _ _ rfl rfl w.heap.size 0 X0 23 (heap_of HG.out) X1 N H1n.out H1.out (fun h0 => ⟨rfl, H1p.out h0⟩) (by rw [H1.out, H0.out]; omega) P1.out w.heap.size w HWW.out (Nat.le_refl _) ?_)
           intro w2 hG2 hb2
           have HG2 := Lib.hid hG2
           have HB2 := Lib.hid hb2
           clear hG2 hb2)
        | ((with_reducible refine wpList_copy_wat (o := ⟨some 31, _, _, _, _, _⟩) rfl _ _ 24 24 rfl 23 3 Try.underlying24 (by kernel_rfl) _ _ _ _ _ _ rfl rfl w.heap.size (N * 3) (splice X0 0 X1) 23 (heap_of HG2.out) X2 0 (by have := HX0.out; simp only [Nat.min_def]; split <;> omega) H2.out (fun h0 => absurd h0 (by omega)) (by rw [length_splice _ _ _ (by rw [H1.out, H0.out]; omega), H0.out, H2.out]; have := HX0.out; omega) P2.out w.heap.size w HB2.out (Nat.le_refl _) ?_)
           intro w3 hG3 hb3
           have HG3 := Lib.hid hG3
           have HB3 := Lib.hid hb3
           clear hG3 hb3))
      go_region_law (first
        | (with_reducible refine step_copy_wat rfl (.tmp 35) (.tmp 38) 24 24 rfl 23 3 Try.underlying24 (by kernel_rfl) _ _ _ _ _ _ rfl rfl w.heap.size (N * 3) (splice (splice X0 0 X1) (N * 3) X2) 23 (heap_of (whole_drew HG3.out)) X3 (c - c) (by have := HX0.out; simp only [Nat.min_def]; split <;> omega) H3.out (fun h0 => absurd h0 (by omega)) (by rw [length_splice _ _ _ (by rw [length_splice _ _ _ (by rw [H1.out, H0.out]; omega), H0.out, H2.out]; have := HX0.out; omega), length_splice _ _ _ (by rw [H1.out, H0.out]; omega), H0.out, H3.out]; have := HX0.out; omega) P3.out w.heap.size w HB3.out.drew (Nat.le_refl _) ?_
           intro w4 hG4 hb4
           have HG4 := Lib.hid hG4
           have HB4 := Lib.hid hb4
           clear hG4 hb4))
      all_goals go_wp2
      all_goals go_ret
      all_goals exact HE.out w4 HG4.out HB4.out
    · go_enter Try.func36, Try.ntmps36
      go_wp2_with (first
        | ((with_reducible refine wpList_copy_wat (o := ⟨some 25, _, _, _, _, _⟩) rfl _ _ 24 24 rfl 23 3 Try.underlying24 (by kernel_rfl) _ _ _ _ _ _ rfl rfl w.heap.size 0 X0 23 (heap_of HG.out) X1 N H1n.out H1.out (fun h0 => ⟨rfl, H1p.out h0⟩) (by rw [H1.out, H0.out]; omega) P1.out w.heap.size w HWW.out (Nat.le_refl _) ?_)
           intro w2 hG2 hb2
           have HG2 := Lib.hid hG2
           have HB2 := Lib.hid hb2
           clear hG2 hb2)
        | ((with_reducible refine wpList_copy_wat (o := ⟨some 31, _, _, _, _, _⟩) rfl _ _ 24 24 rfl 23 3 Try.underlying24 (by kernel_rfl) _ _ _ _ _ _ rfl rfl w.heap.size (N * 3) (splice X0 0 X1) 23 (heap_of HG2.out) X2 0 (by have := HX0.out; simp only [Nat.min_def]; split <;> omega) H2.out (fun h0 => absurd h0 (by omega)) (by rw [length_splice _ _ _ (by rw [H1.out, H0.out]; omega), H0.out, H2.out]; have := HX0.out; omega) P2.out w.heap.size w HB2.out (Nat.le_refl _) ?_)
           intro w3 hG3 hb3
           have HG3 := Lib.hid hG3
           have HB3 := Lib.hid hb3
           clear hG3 hb3))
      go_region_law (first
        | (with_reducible refine step_copy_wat rfl (.tmp 35) (.tmp 38) 24 24 rfl 23 3 Try.underlying24 (by kernel_rfl) _ _ _ _ _ _ rfl rfl w.heap.size (N * 3) (splice (splice X0 0 X1) (N * 3) X2) 23 (heap_of (whole_drew HG3.out)) X3 (j - j) (by have := HX0.out; simp only [Nat.min_def]; split <;> omega) H3.out (fun h0 => absurd h0 (by omega)) (by rw [length_splice _ _ _ (by rw [length_splice _ _ _ (by rw [H1.out, H0.out]; omega), H0.out, H2.out]; have := HX0.out; omega), length_splice _ _ _ (by rw [H1.out, H0.out]; omega), H0.out, H3.out]; have := HX0.out; omega) P3.out w.heap.size w HB3.out.drew (Nat.le_refl _) ?_
           intro w4 hG4 hb4
           have HG4 := Lib.hid hG4
           have HB4 := Lib.hid hb4
           clear hG4 hb4))
      all_goals go_wp2
      all_goals go_ret
      all_goals exact HE.out w4 HG4.out HB4.out
  by_cases hNm : N = p
  · obtain rfl : j = n := by omega
    obtain rfl : N = p := by omega
    clear hN hp hNm
    by_cases hcj : c = j
    · subst hcj
      go_enter Try.func36, Try.ntmps36
      go_wp2_with (first
        | ((with_reducible refine wpList_copy_wat (o := ⟨some 25, _, _, _, _, _⟩) rfl _ _ 24 24 rfl 23 3 Try.underlying24 (by kernel_rfl) _ _ _ _ _ _ rfl rfl w.heap.size 0 X0 23 (heap_of HG.out) X1 i H1n.out H1.out (fun h0 => ⟨rfl, H1p.out h0⟩) (by rw [H1.out, H0.out]; omega) P1.out w.heap.size w HWW.out (Nat.le_refl _) ?_)
           intro w2 hG2 hb2
           have HG2 := Lib.hid hG2
           have HB2 := Lib.hid hb2
           clear hG2 hb2)
        | ((with_reducible refine wpList_copy_wat (o := ⟨some 31, _, _, _, _, _⟩) rfl _ _ 24 24 rfl 23 3 Try.underlying24 (by kernel_rfl) _ _ _ _ _ _ rfl rfl w.heap.size (i * 3) (splice X0 0 X1) 23 (heap_of HG2.out) X2 m (by have := HX0.out; simp only [Nat.min_def]; split <;> omega) H2.out (fun h0 => ⟨rfl, s2.out _ HB2.out h0⟩) (by rw [length_splice _ _ _ (by rw [H1.out, H0.out]; omega), H0.out, H2.out]; have := HX0.out; omega) P2.out w.heap.size w HB2.out (Nat.le_refl _) ?_)
           intro w3 hG3 hb3
           have HG3 := Lib.hid hG3
           have HB3 := Lib.hid hb3
           clear hG3 hb3))
      go_region_law (first
        | (with_reducible refine step_copy_wat rfl (.tmp 35) (.tmp 38) 24 24 rfl 23 3 Try.underlying24 (by kernel_rfl) _ _ _ _ _ _ rfl rfl w.heap.size (N * 3) (splice (splice X0 0 X1) (i * 3) X2) 23 (heap_of (whole_drew HG3.out)) X3 (c - c) (by have := HX0.out; simp only [Nat.min_def]; split <;> omega) H3.out (fun h0 => absurd h0 (by omega)) (by rw [length_splice _ _ _ (by rw [length_splice _ _ _ (by rw [H1.out, H0.out]; omega), H0.out, H2.out]; have := HX0.out; omega), length_splice _ _ _ (by rw [H1.out, H0.out]; omega), H0.out, H3.out]; have := HX0.out; omega) P3.out w.heap.size w HB3.out.drew (Nat.le_refl _) ?_
           intro w4 hG4 hb4
           have HG4 := Lib.hid hG4
           have HB4 := Lib.hid hb4
           clear hG4 hb4))
      all_goals go_wp2
      all_goals go_ret
      all_goals exact HE.out w4 HG4.out HB4.out
    · go_enter Try.func36, Try.ntmps36
      go_wp2_with (first
        | ((with_reducible refine wpList_copy_wat (o := ⟨some 25, _, _, _, _, _⟩) rfl _ _ 24 24 rfl 23 3 Try.underlying24 (by kernel_rfl) _ _ _ _ _ _ rfl rfl w.heap.size 0 X0 23 (heap_of HG.out) X1 i H1n.out H1.out (fun h0 => ⟨rfl, H1p.out h0⟩) (by rw [H1.out, H0.out]; omega) P1.out w.heap.size w HWW.out (Nat.le_refl _) ?_)
           intro w2 hG2 hb2
           have HG2 := Lib.hid hG2
           have HB2 := Lib.hid hb2
           clear hG2 hb2)
        | ((with_reducible refine wpList_copy_wat (o := ⟨some 31, _, _, _, _, _⟩) rfl _ _ 24 24 rfl 23 3 Try.underlying24 (by kernel_rfl) _ _ _ _ _ _ rfl rfl w.heap.size (i * 3) (splice X0 0 X1) 23 (heap_of HG2.out) X2 m (by have := HX0.out; simp only [Nat.min_def]; split <;> omega) H2.out (fun h0 => ⟨rfl, s2.out _ HB2.out h0⟩) (by rw [length_splice _ _ _ (by rw [H1.out, H0.out]; omega), H0.out, H2.out]; have := HX0.out; omega) P2.out w.heap.size w HB2.out (Nat.le_refl _) ?_)
           intro w3 hG3 hb3
           have HG3 := Lib.hid hG3
           have HB3 := Lib.hid hb3
           clear hG3 hb3))
      go_region_law (first
        | (with_reducible refine step_copy_wat rfl (.tmp 35) (.tmp 38) 24 24 rfl 23 3 Try.underlying24 (by kernel_rfl) _ _ _ _ _ _ rfl rfl w.heap.size (N * 3) (splice (splice X0 0 X1) (i * 3) X2) 23 (heap_of (whole_drew HG3.out)) X3 (j - j) (by have := HX0.out; simp only [Nat.min_def]; split <;> omega) H3.out (fun h0 => absurd h0 (by omega)) (by rw [length_splice _ _ _ (by rw [length_splice _ _ _ (by rw [H1.out, H0.out]; omega), H0.out, H2.out]; have := HX0.out; omega), length_splice _ _ _ (by rw [H1.out, H0.out]; omega), H0.out, H3.out]; have := HX0.out; omega) P3.out w.heap.size w HB3.out.drew (Nat.le_refl _) ?_
           intro w4 hG4 hb4
           have HG4 := Lib.hid hG4
           have HB4 := Lib.hid hb4
           clear hG4 hb4))
      all_goals go_wp2
      all_goals go_ret
      all_goals exact HE.out w4 HG4.out HB4.out
  have hcj : ¬ c = j := by omega
  clear hN hp
  go_enter Try.func36, Try.ntmps36
  go_wp2_with (first
    | ((with_reducible refine wpList_copy_wat (o := ⟨some 25, _, _, _, _, _⟩) rfl _ _ 24 24 rfl 23 3 Try.underlying24 (by kernel_rfl) _ _ _ _ _ _ rfl rfl w.heap.size 0 X0 23 (heap_of HG.out) X1 i H1n.out H1.out (fun h0 => ⟨rfl, H1p.out h0⟩) (by rw [H1.out, H0.out]; omega) P1.out w.heap.size w HWW.out (Nat.le_refl _) ?_)
       intro w2 hG2 hb2
       have HG2 := Lib.hid hG2
       have HB2 := Lib.hid hb2
       clear hG2 hb2)
    | ((with_reducible refine wpList_copy_wat (o := ⟨some 31, _, _, _, _, _⟩) rfl _ _ 24 24 rfl 23 3 Try.underlying24 (by kernel_rfl) _ _ _ _ _ _ rfl rfl w.heap.size (i * 3) (splice X0 0 X1) 23 (heap_of HG2.out) X2 m (by have := HX0.out; simp only [Nat.min_def]; split <;> omega) H2.out (fun h0 => ⟨rfl, s2.out _ HB2.out h0⟩) (by rw [length_splice _ _ _ (by rw [H1.out, H0.out]; omega), H0.out, H2.out]; have := HX0.out; omega) P2.out w.heap.size w HB2.out (Nat.le_refl _) ?_)
       intro w3 hG3 hb3
       have HG3 := Lib.hid hG3
       have HB3 := Lib.hid hb3
       clear hG3 hb3))
  go_region_law (first
    | (with_reducible refine step_copy_wat rfl (.tmp 35) (.tmp 38) 24 24 rfl 23 3 Try.underlying24 (by kernel_rfl) _ _ _ _ _ _ rfl rfl w.heap.size (p * 3) (splice (splice X0 0 X1) (i * 3) X2) 23 (heap_of (whole_drew HG3.out)) X3 (n - j) (by have := HX0.out; simp only [Nat.min_def]; split <;> omega) H3.out (fun h0 => ⟨rfl, s3.out _ HB3.out.drew h0⟩) (by rw [length_splice _ _ _ (by rw [length_splice _ _ _ (by rw [H1.out, H0.out]; omega), H0.out, H2.out]; have := HX0.out; omega), length_splice _ _ _ (by rw [H1.out, H0.out]; omega), H0.out, H3.out]; have := HX0.out; omega) P3.out w.heap.size w HB3.out.drew (Nat.le_refl _) ?_
       intro w4 hG4 hb4
       have HG4 := Lib.hid hG4
       have HB4 := Lib.hid hb4
       clear hG4 hb4))
  all_goals go_wp2
  all_goals go_ret
  all_goals exact HE.out w4 HG4.out HB4.out

end Go.Proofs.Ytlnmdepaobocnaa

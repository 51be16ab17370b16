/- Package ring: Look, Take. -/
import Derived.Test.YthmendcdfhlkkaaRing2
namespace Go.Proofs.Ythmendcdfhlkkaa
open Go.ChangeShapes Go.WideShapes Go.ChangeAt Go.RowKit
set_option linter.unusedVariables false
set_option linter.unusedSimpArgs false

theorem whole_cells {w W : World} {p : Nat} {t : TypeId} {pl : List Int} (h : Whole .u8 w p t pl) (hb : Below w.heap.size w W) (f k : Nat) :
    ∀ j v, (((pl.drop f).take k).map (Value.int .u8))[j]? = some v → W.cell? (Addr.add ⟨p, f, none⟩ j) = some v := by
  intro j v hv
  rw [List.getElem?_map, List.getElem?_take] at hv
  by_cases hj : j < k
  · rw [if_pos hj, List.getElem?_drop] at hv
    have hl : f + j < pl.length := by
      rcases Nat.lt_or_ge (f + j) pl.length with h | h
      · exact h
      · rw [List.getElem?_eq_none h] at hv; cases hv
    rw [add_none, hb.cell (p := ⟨p, f + j, none⟩) h.lt, h.cell (f + j) hl, ← hv, List.getD_eq_getElem?_getD, List.getElem?_eq_getElem hl]
    rfl
  · rw [if_neg hj] at hv
    cases hv

theorem splice_behind2 (H cs : List Value) (k n : Nat) (z : Value) (hk : H.length = k) (hn : cs.length = n) : splice (H ++ List.replicate n z) k cs = H ++ cs := by
  unfold splice
  subst hk hn
  simp

/-- What Look leaves. -/
def Looked (qs : List Int) (m : Nat) (w : World) (e : Ending) (w' : World) : Prop := ∃ b, e = .returned (.slice (some ⟨b, 0, none⟩) m m) ∧ w.heap.size ≤ b ∧ Whole .u8 w' b 5 (qs.take m) ∧ Below w.heap.size w w'

section
variable {T : TypeId} {X : List Value} (w : World) (g p M f : Nat) (qs : List Int)

theorem looked_end (m k : Nat) (pl : List Int) (hm : m ≤ qs.length) (hk : min m (M - f) = k) (HH : Holds pl M f qs) (w5 : World) (hb : Below w.heap.size w w5)
    (hp : w5.heap[w.heap.size]? = some (.cells (splice (splice (List.replicate m (Value.int .u8 0)) 0 (((pl.drop f).take k).map (Value.int .u8))) k (((pl.drop 0).take (m - k)).map (Value.int .u8))).toArray 5 (0, 0))) :
    Looked qs m w (.returned (.slice (some ⟨w.heap.size, 0, none⟩) m m)) w5 := by
  refine ⟨w.heap.size, rfl, Nat.le_refl _, ?_, hb⟩
  have hl := holds_look HH m k hm hk.symm
  obtain ⟨h1, h2, h3, h4, h5⟩ := HH
  have hl1 : ((pl.drop f).take k).length = k := by rw [List.length_take, List.length_drop]; omega
  have hl2 : (pl.take (m - k)).length = m - k := by rw [List.length_take]; omega
  unfold Whole
  rw [hp, ← hl, List.drop_zero]
  obtain ⟨r, hr⟩ : ∃ r, m = k + r := ⟨m - k, by omega⟩
  subst hr
  rw [splice_any k r _ _ (by rw [List.length_map]; exact hl1), splice_behind2 _ _ k r _ (by rw [List.length_map]; exact hl1) (by rw [List.length_map, hl2]; omega), List.map_append]

set_option maxRecDepth 100000 in
set_option maxHeartbeats 2000000 in
theorem look_core (n : Int) (m : Nat) (h : QAt T X w g p M f qs) (hm : (n < 0 ∧ m = 0) ∨ (0 ≤ n ∧ n = (m : Int) ∧ m ≤ qs.length) ∨ ((qs.length : Int) < n ∧ m = qs.length)) :
    Calls Try.prog 117 #[.pointer (some ⟨g, 0, none⟩), .int .i64 n] w (Looked qs m w) := by
  have h0 := h.head.cell 0
  have h1 := h.head.cell 1
  have h2 := h.head.cell 2
  simp only [List.getElem?_cons_succ, List.getElem?_cons_zero] at h0 h1 h2
  have hM := h.most
  have hlen := h.len
  obtain ⟨hf1, hf2⟩ := h.first
  obtain ⟨pl, HP, HH⟩ := h.holds
  have hmq : m ≤ qs.length := by omega
  have HE := Lib.hid (fun w5 => looked_end w M f qs m (min m (M - f)) pl hmq rfl HH w5)
  have hmk : Hid (∀ (K : Int) (W : World), K = (m : Int) → (Instr.makeSlice 22 (.int .i64 K) (.int .i64 K)).run Try.prog W = .ok (.slice (some ⟨W.heap.size, 0, none⟩) m m) (W.alloc (.cells (Array.replicate m (Value.int .u8 0)) 5))) := by
    intro K W e
    subst e
    have := make_bytes m (by omega) W
    rw [this]
    simp
  obtain ⟨k, hk⟩ : ∃ k, min m (M - f) = k := ⟨_, rfl⟩
  rw [hk] at HE
  obtain ⟨hgl, hpl⟩ := h.lt
  obtain ⟨X1, hX1⟩ : ∃ X1, X1 = ((pl.drop f).take k).map (Value.int .u8) := ⟨_, rfl⟩
  obtain ⟨X2, hX2⟩ : ∃ X2, X2 = ((pl.drop 0).take (m - k)).map (Value.int .u8) := ⟨_, rfl⟩
  rw [← hX1, ← hX2] at HE
  have hpll := HH.1
  have HL1 : Hid (X1.length = k) := by show X1.length = k; rw [hX1, List.length_map, List.length_take, List.length_drop]; omega
  have HL2 : Hid (X2.length = m - k) := by show X2.length = m - k; rw [hX2, List.length_map, List.length_take, List.length_drop]; omega
  have H1 : Hid (∀ u ∈ X1, u.oneCell' = true) := by rw [hX1]; exact one_cells _ _
  have H2 : Hid (∀ u ∈ X2, u.oneCell' = true) := by rw [hX2]; exact one_cells _ _
  have HS1 : Hid (∀ W, Below w.heap.size w W → ∀ j v, X1[j]? = some v → W.cell? (Addr.add ⟨p, f, none⟩ j) = some v) := by
    intro W hW
    rw [hX1]
    exact whole_cells HP hW f k
  have HS2 : Hid (∀ W, Below w.heap.size w W → ∀ j v, X2[j]? = some v → W.cell? (Addr.add ⟨p, 0, none⟩ j) = some v) := by
    intro W hW
    rw [hX2]
    exact whole_cells HP hW 0 (m - k)
  have HK := Lib.hid hk
  obtain ⟨q, hq⟩ : ∃ q, qs.length = q := ⟨_, rfl⟩
  rw [hq] at h2 hlen hmq hm
  have hk1 : k ≤ m := by omega
  have hfM : (f : Int) ≤ (M : Int) := by omega
  have hkm : (k : Int) ≤ (m : Int) := by omega
  have hq0 : ¬ (q : Int) < 0 := by omega
  have HHM := Lib.hid hm
  have HMF : Hid ((M = 0 ∧ f = 0) ∨ ¬ M = f) := by
    rcases Nat.eq_zero_or_pos M with h | h
    · exact .inl ⟨h, by omega⟩
    · exact .inr (by have := hf2 h; omega)
  have HMM := Lib.hid (show m ≤ M by omega)
  clear h HH HP hk hq hX1 hX2 hpll hm hf1 hf2 hM
  rcases HMF.out with ⟨hM0, hf0⟩ | hne1
  · subst hM0
    subst hf0
    obtain rfl : m = 0 := by have := HMM.out; omega
    obtain rfl : k = 0 := by omega
    obtain rfl : q = 0 := by omega
    have hmk1 := fun W => hmk.out 0 W rfl
    by_cases hn : n < 0
    · clear HHM
      go_enter Try.func117, Try.ntmps117
      go_wp2
      obtain ⟨w1, hw1⟩ : ∃ w1, w.alloc (.cells #[] 5) = w1 := ⟨_, rfl⟩
      have HX1 : Hid (w1.heap[w.heap.size]? = some (.cells (List.replicate 0 (Value.int .u8 0)).toArray 5 (0, 0))) := by
        rw [← hw1]
        have h := heap_alloc_new w (.cells #[] 5)
        refine Eq.trans h ?_
        simp
      have HB1 : Hid (Below w.heap.size w w1) := by rw [← hw1]; exact (Below.refl _ _).alloc (Nat.le_refl _) _
      have c0 : w1.cell? ⟨g, 0, none⟩ = some (.slice (some ⟨p, 0, none⟩) 0 0) := (HB1.out.cell hgl).trans h0
      have c1 : w1.cell? ⟨g, 1, none⟩ = some (.int .i64 0) := (HB1.out.cell hgl).trans h1
      rw [hw1]
      clear hw1 hmk1
      go_region_law (first
        | (refine step_copy_at rfl (.tmp 15) (.tmp 24) 22 22 rfl 5 Try.underlying22 (by kernel_rfl) (some ⟨w.heap.size, 0, none⟩) (some ⟨p, 0, none⟩) 0 0 0 0 rfl rfl w.heap.size 0 (List.replicate 0 (Value.int .u8 0)) 5 HX1.out X1 0 HL1.out (by have := HK.out; show 0 = min 0 0; omega) (fun _ => ⟨rfl, _, rfl, HS1.out _ HB1.out.drew⟩) (by rw [List.length_replicate]; omega) H1.out ?_
           intro w4 HG4 hO4
           have HB4 : Hid (Below w.heap.size w w4) := HB1.out.drew.trans (hO4.below (by show w.heap.size ≤ w1.heap.size; exact HB1.out.size) (fun i hi e => by omega))
           have c40 : w4.cell? ⟨g, 0, none⟩ = some (.slice (some ⟨p, 0, none⟩) 0 0) := (HB4.out.cell hgl).trans h0
           clear hO4))
      all_goals
        go_wp2
        go_region_law (first
          | (refine step_copy_at rfl (.tmp 28) (.tmp 32) 22 22 rfl 5 Try.underlying22 (by kernel_rfl) (some ⟨w.heap.size, 0, none⟩) (some ⟨p, 0, none⟩) 0 0 0 0 rfl rfl w.heap.size 0 (splice (List.replicate 0 (Value.int .u8 0)) 0 X1) 5 HG4.out X2 0 ((HL2.out).trans (by omega)) (by have := HMM.out; show 0 = min 0 0; omega) (fun h => absurd h (by omega)) (by rw [length_splice _ _ _ (by rw [HL1.out, List.length_replicate]; omega), List.length_replicate]; omega) H2.out ?_
             intro w5 HG5 hO5
             have HB5 : Hid (Below w.heap.size w w5) := HB4.out.drew.trans (hO5.below (by show w.heap.size ≤ w4.heap.size; exact HB4.out.size) (fun i hi e => by omega))
             clear hO5))
        all_goals
          go_wp2
          go_ret
          exact HE.out w5 HB5.out HG5.out
    · by_cases hn2 : n = 0
      · subst hn2
        clear HHM
        go_enter Try.func117, Try.ntmps117
        go_wp2
        obtain ⟨w1, hw1⟩ : ∃ w1, w.alloc (.cells #[] 5) = w1 := ⟨_, rfl⟩
        have HX1 : Hid (w1.heap[w.heap.size]? = some (.cells (List.replicate 0 (Value.int .u8 0)).toArray 5 (0, 0))) := by
          rw [← hw1]
          have h := heap_alloc_new w (.cells #[] 5)
          refine Eq.trans h ?_
          simp
        have HB1 : Hid (Below w.heap.size w w1) := by rw [← hw1]; exact (Below.refl _ _).alloc (Nat.le_refl _) _
        have c0 : w1.cell? ⟨g, 0, none⟩ = some (.slice (some ⟨p, 0, none⟩) 0 0) := (HB1.out.cell hgl).trans h0
        have c1 : w1.cell? ⟨g, 1, none⟩ = some (.int .i64 0) := (HB1.out.cell hgl).trans h1
        rw [hw1]
        clear hw1 hmk1
        go_region_law (first
          | (refine step_copy_at rfl (.tmp 15) (.tmp 24) 22 22 rfl 5 Try.underlying22 (by kernel_rfl) (some ⟨w.heap.size, 0, none⟩) (some ⟨p, 0, none⟩) 0 0 0 0 rfl rfl w.heap.size 0 (List.replicate 0 (Value.int .u8 0)) 5 HX1.out X1 0 HL1.out (by have := HK.out; show 0 = min 0 0; omega) (fun _ => ⟨rfl, _, rfl, HS1.out _ HB1.out.drew⟩) (by rw [List.length_replicate]; omega) H1.out ?_
             intro w4 HG4 hO4
             have HB4 : Hid (Below w.heap.size w w4) := HB1.out.drew.trans (hO4.below (by show w.heap.size ≤ w1.heap.size; exact HB1.out.size) (fun i hi e => by omega))
             have c40 : w4.cell? ⟨g, 0, none⟩ = some (.slice (some ⟨p, 0, none⟩) 0 0) := (HB4.out.cell hgl).trans h0
             clear hO4))
        all_goals
          go_wp2
          go_region_law (first
            | (refine step_copy_at rfl (.tmp 28) (.tmp 32) 22 22 rfl 5 Try.underlying22 (by kernel_rfl) (some ⟨w.heap.size, 0, none⟩) (some ⟨p, 0, none⟩) 0 0 0 0 rfl rfl w.heap.size 0 (splice (List.replicate 0 (Value.int .u8 0)) 0 X1) 5 HG4.out X2 0 ((HL2.out).trans (by omega)) (by have := HMM.out; show 0 = min 0 0; omega) (fun h => absurd h (by omega)) (by rw [length_splice _ _ _ (by rw [HL1.out, List.length_replicate]; omega), List.length_replicate]; omega) H2.out ?_
               intro w5 HG5 hO5
               have HB5 : Hid (Below w.heap.size w w5) := HB4.out.drew.trans (hO5.below (by show w.heap.size ≤ w4.heap.size; exact HB4.out.size) (fun i hi e => by omega))
               clear hO5))
          all_goals
            go_wp2
            go_ret
            exact HE.out w5 HB5.out HG5.out
      · have hn3 : (0 : Int) < n := by omega
        clear HHM
        go_enter Try.func117, Try.ntmps117
        go_wp2
        obtain ⟨w1, hw1⟩ : ∃ w1, w.alloc (.cells #[] 5) = w1 := ⟨_, rfl⟩
        have HX1 : Hid (w1.heap[w.heap.size]? = some (.cells (List.replicate 0 (Value.int .u8 0)).toArray 5 (0, 0))) := by
          rw [← hw1]
          have h := heap_alloc_new w (.cells #[] 5)
          refine Eq.trans h ?_
          simp
        have HB1 : Hid (Below w.heap.size w w1) := by rw [← hw1]; exact (Below.refl _ _).alloc (Nat.le_refl _) _
        have c0 : w1.cell? ⟨g, 0, none⟩ = some (.slice (some ⟨p, 0, none⟩) 0 0) := (HB1.out.cell hgl).trans h0
        have c1 : w1.cell? ⟨g, 1, none⟩ = some (.int .i64 0) := (HB1.out.cell hgl).trans h1
        rw [hw1]
        clear hw1 hmk1
        go_region_law (first
          | (refine step_copy_at rfl (.tmp 15) (.tmp 24) 22 22 rfl 5 Try.underlying22 (by kernel_rfl) (some ⟨w.heap.size, 0, none⟩) (some ⟨p, 0, none⟩) 0 0 0 0 rfl rfl w.heap.size 0 (List.replicate 0 (Value.int .u8 0)) 5 HX1.out X1 0 HL1.out (by have := HK.out; show 0 = min 0 0; omega) (fun _ => ⟨rfl, _, rfl, HS1.out _ HB1.out.drew⟩) (by rw [List.length_replicate]; omega) H1.out ?_
             intro w4 HG4 hO4
             have HB4 : Hid (Below w.heap.size w w4) := HB1.out.drew.trans (hO4.below (by show w.heap.size ≤ w1.heap.size; exact HB1.out.size) (fun i hi e => by omega))
             have c40 : w4.cell? ⟨g, 0, none⟩ = some (.slice (some ⟨p, 0, none⟩) 0 0) := (HB4.out.cell hgl).trans h0
             clear hO4))
        all_goals
          go_wp2
          go_region_law (first
            | (refine step_copy_at rfl (.tmp 28) (.tmp 32) 22 22 rfl 5 Try.underlying22 (by kernel_rfl) (some ⟨w.heap.size, 0, none⟩) (some ⟨p, 0, none⟩) 0 0 0 0 rfl rfl w.heap.size 0 (splice (List.replicate 0 (Value.int .u8 0)) 0 X1) 5 HG4.out X2 0 ((HL2.out).trans (by omega)) (by have := HMM.out; show 0 = min 0 0; omega) (fun h => absurd h (by omega)) (by rw [length_splice _ _ _ (by rw [HL1.out, List.length_replicate]; omega), List.length_replicate]; omega) H2.out ?_
               intro w5 HG5 hO5
               have HB5 : Hid (Below w.heap.size w w5) := HB4.out.drew.trans (hO5.below (by show w.heap.size ≤ w4.heap.size; exact HB4.out.size) (fun i hi e => by omega))
               clear hO5))
          all_goals
            go_wp2
            go_ret
            exact HE.out w5 HB5.out HG5.out
  · rcases HHM.out with ⟨hn, hm0⟩ | ⟨hn, hnm, hle⟩ | ⟨hn, hmq2⟩
    · subst hm0
      obtain rfl : k = 0 := by omega
      have hmk1 := fun W => hmk.out 0 W rfl
      clear HHM
      go_enter Try.func117, Try.ntmps117
      go_wp2
      obtain ⟨w1, hw1⟩ : ∃ w1, w.alloc (.cells #[] 5) = w1 := ⟨_, rfl⟩
      have HX1 : Hid (w1.heap[w.heap.size]? = some (.cells (List.replicate 0 (Value.int .u8 0)).toArray 5 (0, 0))) := by
        rw [← hw1]
        have h := heap_alloc_new w (.cells #[] 5)
        refine Eq.trans h ?_
        simp
      have HB1 : Hid (Below w.heap.size w w1) := by rw [← hw1]; exact (Below.refl _ _).alloc (Nat.le_refl _) _
      have c0 : w1.cell? ⟨g, 0, none⟩ = some (.slice (some ⟨p, 0, none⟩) M M) := (HB1.out.cell hgl).trans h0
      have c1 : w1.cell? ⟨g, 1, none⟩ = some (.int .i64 (f : Int)) := (HB1.out.cell hgl).trans h1
      rw [hw1]
      clear hw1 hmk1
      go_region_law (first
        | (refine step_copy_at rfl (.tmp 15) (.tmp 24) 22 22 rfl 5 Try.underlying22 (by kernel_rfl) (some ⟨w.heap.size, 0, none⟩) (some ⟨p, f, none⟩) 0 0 (M - f) (M - f) rfl rfl w.heap.size 0 (List.replicate 0 (Value.int .u8 0)) 5 HX1.out X1 0 HL1.out (by have := HK.out; show 0 = min (M - f) 0; omega) (fun _ => ⟨rfl, _, rfl, HS1.out _ HB1.out.drew⟩) (by rw [List.length_replicate]; omega) H1.out ?_
           intro w4 HG4 hO4
           have HB4 : Hid (Below w.heap.size w w4) := HB1.out.drew.trans (hO4.below (by show w.heap.size ≤ w1.heap.size; exact HB1.out.size) (fun i hi e => by omega))
           have c40 : w4.cell? ⟨g, 0, none⟩ = some (.slice (some ⟨p, 0, none⟩) M M) := (HB4.out.cell hgl).trans h0
           clear hO4))
      all_goals
        go_wp2
        go_region_law (first
          | (refine step_copy_at rfl (.tmp 28) (.tmp 32) 22 22 rfl 5 Try.underlying22 (by kernel_rfl) (some ⟨w.heap.size, 0, none⟩) (some ⟨p, 0, none⟩) 0 0 M M rfl rfl w.heap.size 0 (splice (List.replicate 0 (Value.int .u8 0)) 0 X1) 5 HG4.out X2 0 ((HL2.out).trans (by omega)) (by have := HMM.out; show 0 = min M 0; omega) (fun h => absurd h (by omega)) (by rw [length_splice _ _ _ (by rw [HL1.out, List.length_replicate]; omega), List.length_replicate]; omega) H2.out ?_
             intro w5 HG5 hO5
             have HB5 : Hid (Below w.heap.size w w5) := HB4.out.drew.trans (hO5.below (by show w.heap.size ≤ w4.heap.size; exact HB4.out.size) (fun i hi e => by omega))
             clear hO5))
        all_goals
          go_wp2
          go_ret
          exact HE.out w5 HB5.out HG5.out
    · subst hnm
      have hmk1 := fun W => hmk.out (m : Int) W rfl
      have hn2 : ¬ (m : Int) < 0 := by omega
      have hn3 : ¬ q < m := by omega
      clear HHM
      go_enter Try.func117, Try.ntmps117
      go_wp2
      obtain ⟨w1, hw1⟩ : ∃ w1, w.alloc (.cells (Array.replicate m (Value.int .u8 0)) 5) = w1 := ⟨_, rfl⟩
      have HX1 : Hid (w1.heap[w.heap.size]? = some (.cells (List.replicate m (Value.int .u8 0)).toArray 5 (0, 0))) := by
        rw [← hw1]
        have h := heap_alloc_new w (.cells (Array.replicate m (Value.int .u8 0)) 5)
        refine Eq.trans h ?_
        simp
      have HB1 : Hid (Below w.heap.size w w1) := by rw [← hw1]; exact (Below.refl _ _).alloc (Nat.le_refl _) _
      have c0 : w1.cell? ⟨g, 0, none⟩ = some (.slice (some ⟨p, 0, none⟩) M M) := (HB1.out.cell hgl).trans h0
      have c1 : w1.cell? ⟨g, 1, none⟩ = some (.int .i64 (f : Int)) := (HB1.out.cell hgl).trans h1
      rw [hw1]
      clear hw1 hmk1
      go_region_law (first
        | (refine step_copy_at rfl (.tmp 15) (.tmp 24) 22 22 rfl 5 Try.underlying22 (by kernel_rfl) (some ⟨w.heap.size, 0, none⟩) (some ⟨p, f, none⟩) m m (M - f) (M - f) rfl rfl w.heap.size 0 (List.replicate m (Value.int .u8 0)) 5 HX1.out X1 k HL1.out (by have := HK.out; show k = min (M - f) m; omega) (fun _ => ⟨rfl, _, rfl, HS1.out _ HB1.out.drew⟩) (by rw [List.length_replicate]; omega) H1.out ?_
           intro w4 HG4 hO4
           have HB4 : Hid (Below w.heap.size w w4) := HB1.out.drew.trans (hO4.below (by show w.heap.size ≤ w1.heap.size; exact HB1.out.size) (fun i hi e => by omega))
           have c40 : w4.cell? ⟨g, 0, none⟩ = some (.slice (some ⟨p, 0, none⟩) M M) := (HB4.out.cell hgl).trans h0
           clear hO4))
      all_goals
        go_wp2
        by_cases hkm2 : m = k
        · subst hkm2
          go_region_law (first
            | (refine step_copy_at rfl (.tmp 28) (.tmp 32) 22 22 rfl 5 Try.underlying22 (by kernel_rfl) (some ⟨w.heap.size, 0, none⟩) (some ⟨p, 0, none⟩) 0 0 M M rfl rfl w.heap.size m (splice (List.replicate m (Value.int .u8 0)) 0 X1) 5 HG4.out X2 0 ((HL2.out).trans (by omega)) (by have := HMM.out; show 0 = min M 0; omega) (fun h => absurd h (by omega)) (by rw [length_splice _ _ _ (by rw [HL1.out, List.length_replicate]; omega), List.length_replicate]; omega) H2.out ?_
               intro w5 HG5 hO5
               have HB5 : Hid (Below w.heap.size w w5) := HB4.out.drew.trans (hO5.below (by show w.heap.size ≤ w4.heap.size; exact HB4.out.size) (fun i hi e => by omega))
               clear hO5))
          all_goals
            go_wp2
            go_ret
            exact HE.out w5 HB5.out HG5.out
        · go_region_law (first
            | (refine step_copy_at rfl (.tmp 28) (.tmp 32) 22 22 rfl 5 Try.underlying22 (by kernel_rfl) (some ⟨w.heap.size, k, none⟩) (some ⟨p, 0, none⟩) (m - k) (m - k) M M rfl rfl w.heap.size k (splice (List.replicate m (Value.int .u8 0)) 0 X1) 5 HG4.out X2 (m - k) ((HL2.out).trans (by omega)) (by have := HMM.out; show (m - k) = min M (m - k); omega) (fun _ => ⟨rfl, _, rfl, HS2.out _ HB4.out.drew⟩) (by rw [length_splice _ _ _ (by rw [HL1.out, List.length_replicate]; omega), List.length_replicate]; omega) H2.out ?_
               intro w5 HG5 hO5
               have HB5 : Hid (Below w.heap.size w w5) := HB4.out.drew.trans (hO5.below (by show w.heap.size ≤ w4.heap.size; exact HB4.out.size) (fun i hi e => by omega))
               clear hO5))
          all_goals
            go_wp2
            go_ret
            exact HE.out w5 HB5.out HG5.out
    · subst hmq2
      have hmk1 := fun W => hmk.out (m : Int) W rfl
      have hn2 : ¬ n < 0 := by omega
      clear HHM
      go_enter Try.func117, Try.ntmps117
      go_wp2
      obtain ⟨w1, hw1⟩ : ∃ w1, w.alloc (.cells (Array.replicate m (Value.int .u8 0)) 5) = w1 := ⟨_, rfl⟩
      have HX1 : Hid (w1.heap[w.heap.size]? = some (.cells (List.replicate m (Value.int .u8 0)).toArray 5 (0, 0))) := by
        rw [← hw1]
        have h := heap_alloc_new w (.cells (Array.replicate m (Value.int .u8 0)) 5)
        refine Eq.trans h ?_
        simp
      have HB1 : Hid (Below w.heap.size w w1) := by rw [← hw1]; exact (Below.refl _ _).alloc (Nat.le_refl _) _
      have c0 : w1.cell? ⟨g, 0, none⟩ = some (.slice (some ⟨p, 0, none⟩) M M) := (HB1.out.cell hgl).trans h0
      have c1 : w1.cell? ⟨g, 1, none⟩ = some (.int .i64 (f : Int)) := (HB1.out.cell hgl).trans h1
      rw [hw1]
      clear hw1 hmk1
      go_region_law (first
        | (refine step_copy_at rfl (.tmp 15) (.tmp 24) 22 22 rfl 5 Try.underlying22 (by kernel_rfl) (some ⟨w.heap.size, 0, none⟩) (some ⟨p, f, none⟩) m m (M - f) (M - f) rfl rfl w.heap.size 0 (List.replicate m (Value.int .u8 0)) 5 HX1.out X1 k HL1.out (by have := HK.out; show k = min (M - f) m; omega) (fun _ => ⟨rfl, _, rfl, HS1.out _ HB1.out.drew⟩) (by rw [List.length_replicate]; omega) H1.out ?_
           intro w4 HG4 hO4
           have HB4 : Hid (Below w.heap.size w w4) := HB1.out.drew.trans (hO4.below (by show w.heap.size ≤ w1.heap.size; exact HB1.out.size) (fun i hi e => by omega))
           have c40 : w4.cell? ⟨g, 0, none⟩ = some (.slice (some ⟨p, 0, none⟩) M M) := (HB4.out.cell hgl).trans h0
           clear hO4))
      all_goals
        go_wp2
        by_cases hkm2 : m = k
        · subst hkm2
          go_region_law (first
            | (refine step_copy_at rfl (.tmp 28) (.tmp 32) 22 22 rfl 5 Try.underlying22 (by kernel_rfl) (some ⟨w.heap.size, 0, none⟩) (some ⟨p, 0, none⟩) 0 0 M M rfl rfl w.heap.size m (splice (List.replicate m (Value.int .u8 0)) 0 X1) 5 HG4.out X2 0 ((HL2.out).trans (by omega)) (by have := HMM.out; show 0 = min M 0; omega) (fun h => absurd h (by omega)) (by rw [length_splice _ _ _ (by rw [HL1.out, List.length_replicate]; omega), List.length_replicate]; omega) H2.out ?_
               intro w5 HG5 hO5
               have HB5 : Hid (Below w.heap.size w w5) := HB4.out.drew.trans (hO5.below (by show w.heap.size ≤ w4.heap.size; exact HB4.out.size) (fun i hi e => by omega))
               clear hO5))
          all_goals
            go_wp2
            go_ret
            exact HE.out w5 HB5.out HG5.out
        · go_region_law (first
            | (refine step_copy_at rfl (.tmp 28) (.tmp 32) 22 22 rfl 5 Try.underlying22 (by kernel_rfl) (some ⟨w.heap.size, k, none⟩) (some ⟨p, 0, none⟩) (m - k) (m - k) M M rfl rfl w.heap.size k (splice (List.replicate m (Value.int .u8 0)) 0 X1) 5 HG4.out X2 (m - k) ((HL2.out).trans (by omega)) (by have := HMM.out; show (m - k) = min M (m - k); omega) (fun _ => ⟨rfl, _, rfl, HS2.out _ HB4.out.drew⟩) (by rw [length_splice _ _ _ (by rw [HL1.out, List.length_replicate]; omega), List.length_replicate]; omega) H2.out ?_
               intro w5 HG5 hO5
               have HB5 : Hid (Below w.heap.size w w5) := HB4.out.drew.trans (hO5.below (by show w.heap.size ≤ w4.heap.size; exact HB4.out.size) (fun i hi e => by omega))
               clear hO5))
          all_goals
            go_wp2
            go_ret
            exact HE.out w5 HB5.out HG5.out

end

end Go.Proofs.Ythmendcdfhlkkaa

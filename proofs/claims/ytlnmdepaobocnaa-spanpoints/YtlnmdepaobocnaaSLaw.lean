/- Spans and keys by numbers: busbarlaw0.Span, Key. No statement is proved here. -/
import Derived.Test.YtlnmdepaobocnaaSpan3
import Derived.Test.YtlnmdepaobocnaaDigitBy
namespace Go.Proofs.Ytlnmdepaobocnaa
open Go.ChangeShapes Go.WideShapes Go.ChangeAt Go.RowKit
set_option linter.unusedVariables false
set_option linter.unusedSimpArgs false

theorem within_lit12 (k n t : Int) (w : World) (ht : k % n = t) (h0 : -9223372036854775808 ≤ k) (h1 : k ≤ 9223372036854775807) (hn : 0 < n) (hn1 : n ≤ 4611686018427387903) :
    Calls Try.prog 18 #[.int .i64 k, .int .i64 n] w fun e w' => e = .returned (.int .i64 t) ∧ w = w' := by
  subst ht
  exact within_any k n w h0 h1 hn hn1
theorem digit_lit12 (k d n t : Int) (w : World) (hz : (k.tdiv d) % n = t) (h0 : -9223372036854775808 ≤ k) (h1 : k ≤ 9223372036854775807) (hd : 1 < d) (hd1 : d ≤ 4611686018427387903) (hn : 0 < n) (hn1 : n ≤ 4611686018427387903) :
    Calls Try.prog 17 #[.int .i64 k, .int .i64 d, .int .i64 n] w fun e w' => e = .returned (.int .i64 t) ∧ w = w' := by
  have hm := Int.emod_nonneg (k.tdiv d) (show n ≠ 0 by omega)
  have h := digit_by k d n t.toNat w (by omega) h0 h1 hd hd1 hn hn1
  rw [show ((t.toNat : Nat) : Int) = t by omega] at h
  exact h

/-- The span by a number. -/
def spMk (t f0 q z : Int) : Sp := (t, (if z = 0 then 65496 + f0 else f0), min ((if z = 0 then 65496 + f0 else f0) + (if z = 1 then 1 + 100 * q else 1 + q)) 65536)
def spOf (k : Int) : Sp := spMk (k % 4) ((k.tdiv 4) % 40) ((k.tdiv 160) % 12) ((k.tdiv 1920) % 16)
theorem spMk_right {t f0 q z : Int} (h : 0 ≤ t ∧ t < 4) (h1 : 0 ≤ f0 ∧ f0 < 40) (h2 : 0 ≤ q ∧ q < 12) : rightS (spMk t f0 q z) := by
  unfold spMk rightS
  dsimp only
  split <;> split <;> omega
theorem spOf_right (k : Int) : rightS (spOf k) := spMk_right (by omega) (by omega) (by omega)

theorem two_boxesS (w : World) (t f u : Int) (T : TypeId) : ∃ W, (w.alloc (.cells #[.int .i64 t, .int .i64 f, .int .i64 u] T)).alloc (.cells #[.int .i64 t, .int .i64 f, .int .i64 u] T) = W ∧ Below w.heap.size w W ∧ W.cell? ⟨w.heap.size, 0, none⟩ = some (.int .i64 t) ∧ W.cell? ⟨w.heap.size, 1, none⟩ = some (.int .i64 f) ∧ W.cell? ⟨w.heap.size, 2, none⟩ = some (.int .i64 u) := by
  have h : WholeV (w.alloc (.cells #[.int .i64 t, .int .i64 f, .int .i64 u] T)) w.heap.size T [.int .i64 t, .int .i64 f, .int .i64 u] := heap_alloc_new w _
  have h2 := h.below ((Below.refl _ _).alloc (Nat.le_refl _) (.cells #[.int .i64 t, .int .i64 f, .int .i64 u] T)) h.lt
  exact ⟨_, rfl, ((Below.refl _ _).alloc (Nat.le_refl _) _).alloc (by simp) _, h2.cell 0, h2.cell 1, h2.cell 2⟩

set_option maxRecDepth 100000 in
set_option maxHeartbeats 2000000 in
theorem lspan_any (k : Int) (w : World) (k0 : -9223372036854775808 ≤ k) (k1 : k ≤ 9223372036854775807) : Calls Try.prog 19 #[.int .i64 k] w fun e w' => e = .returned (spV (spOf k)) ∧ Below w.heap.size w w' := by
  unfold spOf
  obtain ⟨t, ht⟩ : ∃ t, k % 4 = t := ⟨_, rfl⟩
  obtain ⟨f, hf⟩ : ∃ a, (k.tdiv 4) % 40 = a := ⟨_, rfl⟩
  obtain ⟨q, hq⟩ : ∃ a, (k.tdiv 160) % 12 = a := ⟨_, rfl⟩
  obtain ⟨z, hz⟩ : ∃ a, (k.tdiv 1920) % 16 = a := ⟨_, rfl⟩
  rw [ht, hf, hq, hz]
  have hf0 : 0 ≤ f ∧ f < 40 := by omega
  have hq0 : 0 ≤ q ∧ q < 12 := by omega
  have hz0 : 0 ≤ z ∧ z < 16 := by omega
  have C1 := Lib.hid (fun W => within_lit12 k 4 t W ht k0 k1 (by omega) (by omega))
  have C2 := Lib.hid (fun W => digit_lit12 k 4 40 f W hf k0 k1 (by omega) (by omega) (by omega) (by omega))
  have C3 := Lib.hid (fun W => digit_lit12 k 160 12 q W hq k0 k1 (by omega) (by omega) (by omega) (by omega))
  have C4 := Lib.hid (fun W => digit_lit12 k 1920 16 z W hz k0 k1 (by omega) (by omega) (by omega) (by omega))
  obtain ⟨f1, f2⟩ := hf0
  obtain ⟨q1, q2⟩ := hq0
  obtain ⟨z1, z2⟩ := hz0
  clear ht hf hq hz
  by_cases hd0 : z = 0
  · subst hd0
    go_enter Try.func19, Try.ntmps19
    go_wp2_with (first
      | (go_at_call 18; (with_reducible refine (C1.out _).mono ?_); rintro e w' ⟨rfl, rfl⟩)
      | (go_at_call 17; (with_reducible refine (C2.out _).mono ?_); rintro e w' ⟨rfl, rfl⟩)
      | (go_at_call 17; (with_reducible refine (C3.out _).mono ?_); rintro e w' ⟨rfl, rfl⟩)
      | (go_at_call 17; (with_reducible refine (C4.out _).mono ?_); rintro e w' ⟨rfl, rfl⟩))
    · obtain ⟨W, hW, hb, he0, he1, he2⟩ := two_boxesS w t (65496 + f) (65536) 23
      rw [hW]
      refine bodyPost_ret (v := .agg #[.int .i64 t, .int .i64 (65496 + f), .int .i64 (65536)]) (by simp [results, Try.results19, go_sem, he0, he1, he2]) rfl ⟨?_, hb⟩
      rw [show spMk t f q 0 = (t, 65496 + f, 65536) by simp [spMk]; omega]
    · obtain ⟨W, hW, hb, he0, he1, he2⟩ := two_boxesS w t (65496 + f) (65496 + f + (1 + q)) 23
      rw [hW]
      refine bodyPost_ret (v := .agg #[.int .i64 t, .int .i64 (65496 + f), .int .i64 (65496 + f + (1 + q))]) (by simp [results, Try.results19, go_sem, he0, he1, he2]) rfl ⟨?_, hb⟩
      rw [show spMk t f q 0 = (t, 65496 + f, 65496 + f + (1 + q)) by simp [spMk]; omega]
  by_cases hd1 : z = 1
  · subst hd1
    have hle : ¬ 65536 < f + (1 + 100 * q) := by omega
    go_enter Try.func19, Try.ntmps19
    go_wp2_with (first
      | (go_at_call 18; (with_reducible refine (C1.out _).mono ?_); rintro e w' ⟨rfl, rfl⟩)
      | (go_at_call 17; (with_reducible refine (C2.out _).mono ?_); rintro e w' ⟨rfl, rfl⟩)
      | (go_at_call 17; (with_reducible refine (C3.out _).mono ?_); rintro e w' ⟨rfl, rfl⟩)
      | (go_at_call 17; (with_reducible refine (C4.out _).mono ?_); rintro e w' ⟨rfl, rfl⟩))
    obtain ⟨W, hW, hb, he0, he1, he2⟩ := two_boxesS w t (f) (f + (1 + 100 * q)) 23
    rw [hW]
    refine bodyPost_ret (v := .agg #[.int .i64 t, .int .i64 (f), .int .i64 (f + (1 + 100 * q))]) (by simp [results, Try.results19, go_sem, he0, he1, he2]) rfl ⟨?_, hb⟩
    rw [show spMk t f q 1 = (t, f, f + (1 + 100 * q)) by simp [spMk]; omega]
  · have hle : ¬ 65536 < f + (1 + q) := by omega
    go_enter Try.func19, Try.ntmps19
    go_wp2_with (first
      | (go_at_call 18; (with_reducible refine (C1.out _).mono ?_); rintro e w' ⟨rfl, rfl⟩)
      | (go_at_call 17; (with_reducible refine (C2.out _).mono ?_); rintro e w' ⟨rfl, rfl⟩)
      | (go_at_call 17; (with_reducible refine (C3.out _).mono ?_); rintro e w' ⟨rfl, rfl⟩)
      | (go_at_call 17; (with_reducible refine (C4.out _).mono ?_); rintro e w' ⟨rfl, rfl⟩))
    obtain ⟨W, hW, hb, he0, he1, he2⟩ := two_boxesS w t (f) (f + (1 + q)) 23
    rw [hW]
    refine bodyPost_ret (v := .agg #[.int .i64 t, .int .i64 (f), .int .i64 (f + (1 + q))]) (by simp [results, Try.results19, go_sem, he0, he1, he2]) rfl ⟨?_, hb⟩
    rw [show spMk t f q z = (t, f, f + (1 + q)) by simp [spMk, hd0, hd1]; omega]

theorem two_boxesK (w : World) (t a : Int) (T : TypeId) : ∃ W, (w.alloc (.cells #[.int .i64 t, .int .i64 a] T)).alloc (.cells #[.int .i64 t, .int .i64 a] T) = W ∧ Below w.heap.size w W ∧ W.cell? ⟨w.heap.size, 0, none⟩ = some (.int .i64 t) ∧ W.cell? ⟨w.heap.size, 1, none⟩ = some (.int .i64 a) := by
  have h : WholeV (w.alloc (.cells #[.int .i64 t, .int .i64 a] T)) w.heap.size T [.int .i64 t, .int .i64 a] := heap_alloc_new w _
  have h2 := h.below ((Below.refl _ _).alloc (Nat.le_refl _) (.cells #[.int .i64 t, .int .i64 a] T)) h.lt
  exact ⟨_, rfl, ((Below.refl _ _).alloc (Nat.le_refl _) _).alloc (by simp) _, h2.cell 0, h2.cell 1⟩

set_option maxRecDepth 100000 in
set_option maxHeartbeats 1000000 in
theorem lkey12_any (k : Int) (w : World) (k0 : -9223372036854775808 ≤ k) (k1 : k ≤ 9223372036854775807) : Calls Try.prog 25 #[.int .i64 k] w fun e w' => (∃ t a, e = .returned (.agg #[.int .i64 t, .int .i64 a]) ∧ 0 ≤ a ∧ a ≤ 65535) ∧ Below w.heap.size w w' := by
  obtain ⟨t, ht⟩ : ∃ t, k % 4 = t := ⟨_, rfl⟩
  obtain ⟨a, ha⟩ : ∃ a, (k.tdiv 4) % 16 = a := ⟨_, rfl⟩
  obtain ⟨d, hd⟩ : ∃ d, (k.tdiv 64) % 16 = d := ⟨_, rfl⟩
  have ha0 : 0 ≤ a ∧ a < 16 := by omega
  have C1 := Lib.hid (fun W => within_lit12 k 4 t W ht k0 k1 (by omega) (by omega))
  have C2 := Lib.hid (fun W => digit_lit12 k 4 16 a W ha k0 k1 (by omega) (by omega) (by omega) (by omega))
  have C3 := Lib.hid (fun W => digit_lit12 k 64 16 d W hd k0 k1 (by omega) (by omega) (by omega) (by omega))
  obtain ⟨ha1, ha2⟩ := ha0
  clear ht ha hd
  by_cases hd0 : d = 0
  · subst hd0
    go_enter Try.func25, Try.ntmps25
    go_wp2_with (first
      | (go_at_call 18; (with_reducible refine (C1.out _).mono ?_); rintro e w' ⟨rfl, rfl⟩)
      | (go_at_call 17; (with_reducible refine (C2.out _).mono ?_); rintro e w' ⟨rfl, rfl⟩)
      | (go_at_call 17; (with_reducible refine (C3.out _).mono ?_); rintro e w' ⟨rfl, rfl⟩))
    obtain ⟨W, hW, hb, he0, he1⟩ := two_boxesK w t (65535 - a) 39
    rw [hW]
    exact bodyPost_ret (v := .agg #[.int .i64 t, .int .i64 (65535 - a)]) (by simp [results, Try.results25, go_sem, he0, he1]) rfl ⟨⟨t, (65535 - a), rfl, by omega, by omega⟩, hb⟩
  · go_enter Try.func25, Try.ntmps25
    go_wp2_with (first
      | (go_at_call 18; (with_reducible refine (C1.out _).mono ?_); rintro e w' ⟨rfl, rfl⟩)
      | (go_at_call 17; (with_reducible refine (C2.out _).mono ?_); rintro e w' ⟨rfl, rfl⟩)
      | (go_at_call 17; (with_reducible refine (C3.out _).mono ?_); rintro e w' ⟨rfl, rfl⟩))
    obtain ⟨W, hW, hb, he0, he1⟩ := two_boxesK w t a 39
    rw [hW]
    exact bodyPost_ret (v := .agg #[.int .i64 t, .int .i64 a]) (by simp [results, Try.results25, go_sem, he0, he1]) rfl ⟨⟨t, a, rfl, by omega, by omega⟩, hb⟩

end Go.Proofs.Ytlnmdepaobocnaa

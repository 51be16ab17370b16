/- Where the spans near one stand. No statement is proved here. -/
import Derived.Test.YtlnmdepaobocnaaSpanC
import Derived.Test.YtlnmdepaobocnaaSpanS
import Derived.Test.YtlnmdepaobocnaaSpanM
namespace Go.Proofs.Ytlnmdepaobocnaa
open Go.ChangeShapes Go.WideShapes Go.ChangeAt Go.RowKit
set_option linter.unusedVariables false
set_option linter.unusedSimpArgs false

theorem near_second (A : Option Addr) (n c k bl bs bf : Nat) (l : List Sp) (s : Sp) (W : World) (hl : SL W A n l) (hn : n ≤ 100000) (hc : canonS l) (hkn : k ≤ n) (hbl : W.cell? ⟨bl, 0, none⟩ = some (.slice A n c)) (hbf : W.cell? ⟨bf, 0, none⟩ = some (.int .i64 (k : Int))) (hs : SB W bs s) (hlt : bl < W.heap.size) (hlf : bf < W.heap.size) :
    Calls Try.prog 40 #[.int .i64 ((n - k : Nat) : Int), .func (.func 42) #[] #[.pointer (some ⟨bs, 0, none⟩), .pointer (some ⟨bl, 0, none⟩), .pointer (some ⟨bf, 0, none⟩)]] W fun e w' => (∃ k2 : Nat, e = .returned (.int .i64 k2) ∧ k2 ≤ n - k ∧ (∀ q, q < k2 → ¬ ltS s (l.getD (k + q) sp0)) ∧ (∀ q, k2 ≤ q → q < n - k → ltS s (l.getD (k + q) sp0))) ∧ Below W.heap.size W w' := by
  refine (search_any 42 #[.pointer (some ⟨bs, 0, none⟩), .pointer (some ⟨bl, 0, none⟩), .pointer (some ⟨bf, 0, none⟩)] (n - k) (fun i => decide (ltS s (l.getD (k + i) sp0))) W (fun args w => rfl) (by omega) (fun W' i hb hi => ?_) (fun a b hab hb h => ?_)).mono ?_
  · exact near2_any A n c bl bs bf i k l s _ W' (hl.below hb) (by omega) (by omega) ((hb.cell hlt).trans hbl) ((hb.cell hlf).trans hbf) (hs.below hb) (by simp)
  · rcases Nat.lt_or_eq_of_le hab with hab | rfl
    · simp only [decide_eq_true_eq] at h ⊢
      have hx := hl.len
      exact ltS_trans (canonS_right_at hc sp0 (k + a) (by omega)) h (canonS_at hc sp0 (k + a) (k + b) (by omega) (by omega))
    · exact h
  · rintro e w' ⟨⟨k2, rfl, hk, h1, h2⟩, hb⟩
    exact ⟨⟨k2, rfl, hk, fun q hq => by simpa using h1 q hq, fun q hq hq' => by simpa using h2 q hq hq'⟩, hb⟩

set_option maxRecDepth 100000 in
set_option maxHeartbeats 2000000 in
theorem near_any (A : Option Addr) (n c : Nat) (l : List Sp) (t f u : Int) (w : World) (hl : SL w A n l) (hn : n ≤ 100000) (hc : canonS l) :
    Calls Try.prog 35 #[.slice A n c, .agg #[.int .i64 t, .int .i64 f, .int .i64 u]] w fun e w' => (∃ i j : Nat, e = .returned (.tuple #[.int .i64 i, .int .i64 j]) ∧ NearS l (t, f, u) i j) ∧ Below w.heap.size w w' := by
  obtain ⟨W, hW⟩ : ∃ W, (w.alloc (.cells #[.slice A n c] 24)).alloc (.cells #[.int .i64 t, .int .i64 f, .int .i64 u] 23) = W := ⟨_, rfl⟩
  have hk0 : Below w.heap.size w (w.alloc (.cells #[.slice A n c] 24)) := (Below.refl _ _).alloc (Nat.le_refl _) _
  have hk : Below w.heap.size w W := by rw [← hW]; exact hk0.alloc (by simp) _
  have hs1 : (w.alloc (.cells #[.slice A n c] 24)).heap.size = w.heap.size + 1 := by simp
  have b0 : WholeV (w.alloc (.cells #[.slice A n c] 24)) w.heap.size 24 [.slice A n c] := heap_alloc_new w _
  have b1 : WholeV W (w.heap.size + 1) 23 [.int .i64 t, .int .i64 f, .int .i64 u] := by rw [← hW, ← hs1]; exact heap_alloc_new _ _
  have b0' : WholeV W w.heap.size 24 [.slice A n c] := by
    rw [← hW]
    exact b0.below ((Below.refl _ _).alloc (Nat.le_refl _) _) b0.lt
  have x0 : W.cell? ⟨w.heap.size, 0, none⟩ = some (.slice A n c) := b0'.cell 0
  have hsb : SB W (w.heap.size + 1) (t, f, u) := ⟨b1.lt, b1.cell 0, b1.cell 1, b1.cell 2⟩
  have hlt : w.heap.size < W.heap.size := b0'.lt
  have HK := Lib.hid hk
  have HL := Lib.hid (hl.below hk)
  have HSB := Lib.hid hsb
  have HLT := Lib.hid hlt
  have HN := Lib.hid hl.len
  have HC := Lib.hid hc
  have S1 : Calls Try.prog 40 #[.int .i64 n, .func (.func 41) #[] #[.pointer (some ⟨w.heap.size, 0, none⟩), .pointer (some ⟨w.heap.size + 1, 0, none⟩)]] W fun e w' => (∃ k : Nat, e = .returned (.int .i64 k) ∧ k ≤ n ∧ (∀ q, q < k → ltS (l.getD q sp0) (t, f, u)) ∧ (∀ q, k ≤ q → q < n → ¬ ltS (l.getD q sp0) (t, f, u))) ∧ Below W.heap.size W w' := by
    refine (search_any 41 #[.pointer (some ⟨w.heap.size, 0, none⟩), .pointer (some ⟨w.heap.size + 1, 0, none⟩)] n (fun i => !decide (ltS (l.getD i sp0) (t, f, u))) W (fun args w => rfl) (by omega) (fun W' i hb hi => ?_) (fun a b hab hb h => ?_)).mono ?_
    · exact near1_any A n c w.heap.size (w.heap.size + 1) i l (t, f, u) _ W' (HL.out.below hb) hi ((hb.cell hlt).trans x0) (hsb.below hb) (by simp)
    · rcases Nat.lt_or_eq_of_le hab with hab | rfl
      · simp only [Bool.not_eq_true', decide_eq_false_iff_not] at h ⊢
        intro h2
        exact h (ltS_trans (canonS_right_at hc sp0 b (by rw [hl.len]; exact hb)) (canonS_at hc sp0 a b hab (by rw [hl.len]; exact hb)) h2)
      · exact h
    · rintro e w' ⟨⟨k, rfl, hk, h1, h2⟩, hb⟩
      exact ⟨⟨k, rfl, hk, fun q hq => by simpa using h1 q hq, fun q hq hq' => by simpa using h2 q hq hq'⟩, hb⟩
  have C1 := Lib.hid S1
  clear hk0 hk hs1 b0 b1 b0' hsb hl hc S1 hlt
  go_enter Try.func35, Try.ntmps35
  go_wp2_with (first
    | (go_at_call 40
       (with_reducible refine C1.out.mono ?_)
       rintro e w1 ⟨⟨k, rfl, hkn, h1, h2⟩, hb1⟩
       have z0 : WholeV (w1.alloc (.cells #[.int .i64 (k : Int)] 3)) w1.heap.size 3 [.int .i64 (k : Int)] := heap_alloc_new w1 _
       have hb2 : Below W.heap.size W (w1.alloc (.cells #[.int .i64 (k : Int)] 3)) := hb1.alloc hb1.size _
       have y0 : (w1.alloc (.cells #[.int .i64 (k : Int)] 3)).cell? ⟨w.heap.size, 0, none⟩ = some (.slice A n c) := (hb2.cell HLT.out).trans x0
       have y1 : (w1.alloc (.cells #[.int .i64 (k : Int)] 3)).cell? ⟨w1.heap.size, 0, none⟩ = some (.int .i64 (k : Int)) := z0.cell 0
       have hkz : (k : Int) ≤ (n : Int) := by omega
       have hnz : (n : Int) ≤ 100000 := by omega
       have hnk : (n : Int) - (k : Int) = ((n - k : Nat) : Int) := by omega
       have S2 := near_second A n c k w.heap.size (w.heap.size + 1) w1.heap.size l (t, f, u) (w1.alloc (.cells #[.int .i64 (k : Int)] 3)) (HL.out.below hb2) hn HC.out hkn y0 y1 (HSB.out.below hb2) (Nat.lt_of_lt_of_le HLT.out hb2.size) z0.lt
       rw [← hnk] at S2
       have C2 := Lib.hid S2
       have HB2 := Lib.hid hb2
       have HZ := Lib.hid z0.lt
       have HH := Lib.hid (And.intro h1 h2)
       clear S2 hb2 z0 hb1 h1 h2 hnk)
    | (go_at_call 40
       (with_reducible refine C2.out.mono ?_)
       rintro e w2 ⟨⟨k2, rfl, hk2, h3, h4⟩, hb3⟩
       have v1 : w2.cell? ⟨w1.heap.size, 0, none⟩ = some (.int .i64 (k : Int)) := (hb3.cell HZ.out).trans y1
       have HB3 := Lib.hid (HK.out.trans ((HB2.out.trans (hb3.mono HB2.out.size)).mono HK.out.size))
       have hk2z : (k : Int) + (k2 : Int) ≤ 100000 := by omega
       have HH2 := Lib.hid (And.intro h3 h4)
       clear hb3 h3 h4))
  all_goals
    go_quiet (fail)
    go_wp2
    go_ret2
    exact ⟨⟨k, k + k2, by rw [show ((k + k2 : Nat) : Int) = (k : Int) + (k2 : Int) by omega]; rfl, near_of sp0 HN.out hkn hk2 HH.out.1 HH.out.2 HH2.out.1 HH2.out.2⟩, below_drewN HB3.out _⟩

end Go.Proofs.Ytlnmdepaobocnaa

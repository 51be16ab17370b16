/- The program's lists of spans, and the document's: Size. No statement is proved here. -/
import Derived.Test.YtlnmdepaobocnaaSpan2
namespace Go.Proofs.Ytlnmdepaobocnaa
open Go.ChangeShapes Go.WideShapes Go.ChangeAt Go.RowKit
set_option linter.unusedVariables false
set_option linter.unusedSimpArgs false

theorem sizeS_bound : ∀ (l : List Sp), (∀ x ∈ l, rightS x) → 0 ≤ sizeS l ∧ sizeS l ≤ 65536 * l.length
  | [], _ => ⟨Int.le_refl _, Int.le_refl _⟩
  | x :: l, h => by
    have hx := h x (List.mem_cons_self ..)
    obtain ⟨h1, h2⟩ := sizeS_bound l (fun y hy => h y (List.mem_cons_of_mem _ hy))
    have e : sizeS (x :: l) = lenS x + sizeS l := rfl
    rw [e, List.length_cons]
    unfold lenS
    unfold rightS at hx
    constructor <;> omega
theorem size_front (l : List Sp) (n k : Nat) (hl : l.length = n) (hr : ∀ x ∈ l, rightS x) (hk : k < n) : sizeS (l.take (k + 1)) = sizeS (l.take k) + lenS (l.getD k sp0) ∧ 0 ≤ sizeS (l.take k) ∧ sizeS (l.take k) ≤ 65536 * k ∧ rightS (l.getD k sp0) := by
  have hb := sizeS_bound (l.take k) (fun x hx => hr x (List.mem_of_mem_take hx))
  rw [List.length_take, Nat.min_eq_left (by omega)] at hb
  refine ⟨?_, hb.1, hb.2, hr _ (getD_mem l k (by omega))⟩
  rw [getD_take_succ l k (by omega), sizeS_append]
  show _ = sizeS (l.take k) + lenS (l.getD k sp0)
  simp [sizeS]

set_option maxRecDepth 100000 in
set_option maxHeartbeats 4000000 in
theorem psize_any (A : Option Addr) (n c : Nat) (l : List Sp) (w : World) (hl : SL w A n l) (hr : ∀ x ∈ l, rightS x) (hn : n ≤ 100000) :
    Calls Try.prog 32 #[.slice A n c] w fun e w' => e = .returned (.int .i64 (sizeS l)) ∧ Below w.heap.size w w' := by
  have HL := Lib.hid hl
  have HN := Lib.hid hl.len
  have HR := Lib.hid hr
  clear hl hr
  go_enter Try.func32, Try.ntmps32
  go_wp2
  go_loopw [3, 8] (fun m i wr => ∃ (k : Nat) (z : Int), k ≤ n ∧ i = .int .i64 (k : Int) ∧ m = .int .i64 z ∧ Hid (z = sizeS (l.take k)) ∧ Hid (Below w.heap.size w wr)) (fun _ i _ => n - (intOf i).toNat)
  case atStart => exact ⟨0, 0, by omega, rfl, rfl, Lib.hid rfl, Lib.hid (Below.refl _ _)⟩
  case round =>
    obtain ⟨k, z, hkn, rfl, rfl, HZ, HB⟩ := hrel
    by_cases hlt : k < n
    · have hlt' : (k : Int) < (n : Int) := by omega
      have hk0 : (0 : Int) ≤ (k : Int) := by omega
      have HL2 := Lib.hid (HL.out.below HB.out)
      obtain ⟨b0, off, rfl, hbs, c0, c1, c2⟩ := HL2.out.at_ k hlt
      obtain ⟨q1, q2, q3, q4⟩ := size_front l n k HN.out HR.out hlt
      rw [← HZ.out] at q1 q2 q3
      obtain ⟨⟨st, sf, su⟩, hs⟩ : ∃ s, l.getD k sp0 = s := ⟨_, rfl⟩
      rw [hs] at q1 q4 c0 c1 c2
      unfold lenS at q1
      unfold rightS at q4
      dsimp only at c0 c1 c2 q1 q4
      obtain ⟨q4, q5, q6, q7, q8⟩ := q4
      have hz1 : z ≤ 6553600000 := by omega
      have Q1 := Lib.hid q1
      clear hs q3 q4 q5 q1
      have hsb : su - sf ≤ 65536 := by omega
      have hsb0 : 0 ≤ su - sf := by omega
      go_wp2
      exact ⟨⟨k + 1, _, by omega, by go_num, rfl, Lib.hid Q1.out.symm, Lib.hid (HB.out.alloc HB.out.size _)⟩, by simp [intOf]; omega⟩
    · have hge : ¬ (k : Int) < (n : Int) := by omega
      have hI := HZ.out
      rw [List.take_of_length_le (by rw [HN.out]; omega)] at hI
      subst hI
      go_wp2
      go_ret
      exact ⟨rfl, HB.out⟩

set_option maxRecDepth 100000 in
set_option maxHeartbeats 4000000 in
theorem rsize_any (A : Option Addr) (n c : Nat) (l : List Sp) (w : World) (hl : SL w A n l) (hr : ∀ x ∈ l, rightS x) (hn : n ≤ 100000) :
    Calls Try.prog 33 #[.slice A n c] w fun e w' => e = .returned (.int .i64 (sizeS l)) ∧ Below w.heap.size w w' := by
  have HL := Lib.hid hl
  have HN := Lib.hid hl.len
  have HR := Lib.hid hr
  clear hl hr
  go_enter Try.func33, Try.ntmps33
  go_wp2
  go_loopw [3, 4] (fun m i wr => ∃ (k : Nat) (z : Int), k ≤ n ∧ i = .int .i64 (k : Int) ∧ m = .int .i64 z ∧ Hid (z = sizeS (l.take k)) ∧ Hid (Below w.heap.size w wr)) (fun _ i _ => n - (intOf i).toNat)
  case atStart => exact ⟨0, 0, by omega, rfl, rfl, Lib.hid rfl, Lib.hid (Below.refl _ _)⟩
  case round =>
    obtain ⟨k, z, hkn, rfl, rfl, HZ, HB⟩ := hrel
    by_cases hlt : k < n
    · have hlt' : (k : Int) < (n : Int) := by omega
      have hk0 : (0 : Int) ≤ (k : Int) := by omega
      have HL2 := Lib.hid (HL.out.below HB.out)
      obtain ⟨b0, off, rfl, hbs, c0, c1, c2⟩ := HL2.out.at_ k hlt
      obtain ⟨q1, q2, q3, q4⟩ := size_front l n k HN.out HR.out hlt
      rw [← HZ.out] at q1 q2 q3
      obtain ⟨⟨st, sf, su⟩, hs⟩ : ∃ s, l.getD k sp0 = s := ⟨_, rfl⟩
      rw [hs] at q1 q4 c0 c1 c2
      unfold lenS at q1
      unfold rightS at q4
      dsimp only at c0 c1 c2 q1 q4
      obtain ⟨q4, q5, q6, q7, q8⟩ := q4
      have hz1 : z ≤ 6553600000 := by omega
      have Q1 := Lib.hid q1
      clear hs q3 q4 q5 q1
      have hsb : su - sf ≤ 65536 := by omega
      have hsb0 : 0 ≤ su - sf := by omega
      have Q2 : Hid (sizeS (List.take (k + 1) l) = z + su - sf) := Lib.hid (by rw [Q1.out]; omega)
      go_wp2
      go_region
      all_goals go_wp2
      all_goals exact ⟨⟨k + 1, _, by omega, by go_num, rfl, Lib.hid Q2.out.symm, Lib.hid HB.out.drew⟩, by simp [intOf]; omega⟩
    · have hge : ¬ (k : Int) < (n : Int) := by omega
      have hI := HZ.out
      rw [List.take_of_length_le (by rw [HN.out]; omega)] at hI
      subst hI
      go_wp2
      go_ret
      exact ⟨rfl, HB.out⟩

end Go.Proofs.Ytlnmdepaobocnaa

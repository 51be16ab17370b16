/- Package ring: what a queue is; New, Len, Room, place. -/
import Derived.Test.YthmendcdfhlkkaaOff
namespace Go.Proofs.Ythmendcdfhlkkaa
open Go.ChangeShapes Go.WideShapes Go.ChangeAt Go.RowKit
set_option linter.unusedVariables false
set_option linter.unusedSimpArgs false

/-- Block g is a queue, its places in block p: for M bytes, the first one at place f; qs wait. -/
structure QAt (T : TypeId) (X : List Value) (w : World) (g p M f : Nat) (qs : List Int) : Prop where
  ne : g ≠ p
  most : M ≤ 65536
  head : WholeV w g T (.slice (some ⟨p, 0, none⟩) M M :: .int .i64 (f : Int) :: .int .i64 (qs.length : Int) :: X)
  holds : ∃ pl, Whole .u8 w p 5 pl ∧ Holds pl M f qs
/-- A queue alone, and not within something else. -/
abbrev RingAt (w : World) (g p M f : Nat) (qs : List Int) : Prop := QAt 118 [] w g p M f qs

theorem QAt.len {T : TypeId} {X : List Value} {w : World} {g p M f : Nat} {qs : List Int} (h : QAt T X w g p M f qs) : qs.length ≤ M := by
  obtain ⟨pl, _, hh⟩ := h.holds
  exact hh.2.1
theorem QAt.first {T : TypeId} {X : List Value} {w : World} {g p M f : Nat} {qs : List Int} (h : QAt T X w g p M f qs) : f ≤ M ∧ (0 < M → f < M) := by
  obtain ⟨pl, _, hh⟩ := h.holds
  exact ⟨hh.2.2.1, hh.2.2.2.1⟩
theorem QAt.lt {T : TypeId} {X : List Value} {w : World} {g p M f : Nat} {qs : List Int} (h : QAt T X w g p M f qs) : g < w.heap.size ∧ p < w.heap.size := by
  obtain ⟨pl, hw, _⟩ := h.holds
  exact ⟨h.head.lt, hw.lt⟩
theorem QAt.off {S : Nat → Prop} {T : TypeId} {X : List Value} {w w' : World} {g p M f : Nat} {qs : List Int} (h : QAt T X w g p M f qs) (ho : Off S w w') (hg : ¬ S g) (hp : ¬ S p) : QAt T X w' g p M f qs :=
  ⟨h.ne, h.most, ho.whole h.head hg, by
    obtain ⟨pl, hw, hh⟩ := h.holds
    exact ⟨pl, ho.wholeI hw hp, hh⟩⟩
theorem QAt.below {T : TypeId} {X : List Value} {w w' : World} {g p M f : Nat} {qs : List Int} (h : QAt T X w g p M f qs) (hb : Below w.heap.size w w') : QAt T X w' g p M f qs := h.off (S := fun _ => False) (Off.of_below hb) id id
theorem QAt.drewN {T : TypeId} {X : List Value} {w : World} {g p M f : Nat} {qs : List Int} (h : QAt T X w g p M f qs) (d : Nat) : QAt T X (w.drewN d) g p M f qs := ⟨h.ne, h.most, h.head, h.holds⟩

section
variable {T : TypeId} {X : List Value} (w : World) (g p M f : Nat) (qs : List Int)

theorem len_any (h : QAt T X w g p M f qs) : Calls Try.prog 79 #[.pointer (some ⟨g, 0, none⟩)] w fun e w' => e = .returned (.int .i64 (qs.length : Int)) ∧ w = w' := by
  have h2 := h.head.cell 2
  simp only [List.getElem?_cons_succ, List.getElem?_cons_zero] at h2
  clear h
  go_enter Try.func79, Try.ntmps79
  go_wp2
  go_ret
  exact ⟨rfl, rfl⟩

theorem room_any (h : QAt T X w g p M f qs) : Calls Try.prog 114 #[.pointer (some ⟨g, 0, none⟩)] w (Quiet (.int .i64 ((M : Int) - (qs.length : Int))) w) := by
  have h0 := h.head.cell 0
  have h2 := h.head.cell 2
  have hm := h.most
  have hl := h.len
  simp only [List.getElem?_cons_succ, List.getElem?_cons_zero] at h0 h2
  clear h
  obtain ⟨q, hq⟩ : ∃ q, qs.length = q := ⟨_, rfl⟩
  rw [hq] at h2 hl ⊢
  clear hq
  have hw : IntKind.i64.wrap ((M : Int) - (q : Int)) = (M : Int) - (q : Int) := IntWalk.i64_in _ (by omega)
  go_enter Try.func114, Try.ntmps114
  go_wp2
  go_quiet (fail)
  go_wp2
  go_ret
  exact ⟨rfl, _, rfl⟩

theorem place_any (i : Nat) (h : QAt T X w g p M f qs) (hi : i ≤ 65536) : Calls Try.prog 115 #[.pointer (some ⟨g, 0, none⟩), .int .i64 (i : Int)] w (Quiet (.int .i64 (plc M f i : Int)) w) := by
  have h0 := h.head.cell 0
  have h1 := h.head.cell 1
  have hm := h.most
  obtain ⟨hf1, hf2⟩ := h.first
  simp only [List.getElem?_cons_succ, List.getElem?_cons_zero] at h0 h1
  clear h
  rcases Nat.eq_zero_or_pos M with h | h
  · subst h
    go_enter Try.func115, Try.ntmps115
    go_wp2
    go_ret
    exact ⟨rfl, 0, rfl⟩
  · have hp : plc M f i = (f + i) % M := by unfold plc; rw [if_neg (by omega)]
    have hw : IntKind.i64.wrap ((f : Int) + (i : Int)) = (f : Int) + (i : Int) := IntWalk.i64_in _ (by omega)
    have ht : ((f : Int) + (i : Int)).tmod (M : Int) = ((plc M f i : Nat) : Int) := by
      rw [hp, Int.tmod_eq_emod_of_nonneg (by omega)]
      simp
    have hne : ((M : Int) == 0) = false := beq_eq_false_iff_ne.2 (by omega)
    have hne2 : (M == 0) = false := beq_eq_false_iff_ne.2 (by omega)
    obtain ⟨P, hP⟩ : ∃ P, plc M f i = P := ⟨_, rfl⟩
    rw [hP] at ht ⊢
    have hPM : P < M := by rw [← hP]; exact plc_lt h
    have hwP : IntKind.i64.wrap (P : Int) = (P : Int) := IntWalk.i64_in _ (by omega)
    clear hp hP
    go_enter Try.func115, Try.ntmps115
    go_wp2
    go_quiet (fail)
    go_wp2
    go_ret
    exact ⟨rfl, _, rfl⟩

end

theorem new_made (w w' : World) (M : Nat) (hM : M ≤ 65536) (h : w' = (w.alloc (.cells (Array.replicate M (Value.int .u8 0)) 5)).alloc (.cells #[.slice (some ⟨w.heap.size, 0, none⟩) M M, .int .i64 0, .int .i64 0] 118)) :
    RingAt w' (w.heap.size + 1) w.heap.size M 0 [] ∧ w.heap.size ≤ w.heap.size + 1 ∧ w.heap.size ≤ w.heap.size ∧ Below w.heap.size w w' := by
  subst h
  refine ⟨⟨by omega, hM, ?_, List.replicate M 0, ?_, holds_new M⟩, by omega, by omega, ((Below.refl _ _).alloc (Nat.le_refl _) _).alloc (by simp) _⟩
  · have := heap_alloc_new (w.alloc (.cells (Array.replicate M (Value.int .u8 0)) 5)) (.cells #[.slice (some ⟨w.heap.size, 0, none⟩) M M, .int .i64 0, .int .i64 0] 118)
    simpa [WholeV] using this
  · unfold Whole
    rw [show ((List.replicate M (0 : Int)).map (Value.int .u8)).toArray = Array.replicate M (Value.int .u8 0) by simp]
    exact (Below.heap_alloc _ _ _ (by simp)).trans (heap_alloc_new w _)

/-- A new queue was returned. -/
def NewRing (M : Nat) (w : World) (e : Ending) (w' : World) : Prop := ∃ g p, e = .returned (.pointer (some ⟨g, 0, none⟩)) ∧ RingAt w' g p M 0 [] ∧ w.heap.size ≤ g ∧ w.heap.size ≤ p ∧ Below w.heap.size w w'

theorem new_any (most : Int) (M : Nat) (w : World) (h0 : -9223372036854775808 ≤ most) (h1 : most ≤ 9223372036854775807) (hM : (M : Int) = if 65536 < (if most < 0 then 0 else most) then 65536 else (if most < 0 then 0 else most)) :
    Calls Try.prog 113 #[.int .i64 most] w (NewRing M w) := by
  have hM2 : M ≤ 65536 := by split at hM <;> split at hM <;> omega
  have hmk : ∀ (K : Int) (W : World), K = (M : Int) → (Instr.makeSlice 22 (.int .i64 K) (.int .i64 K)).run Try.prog W = .ok (.slice (some ⟨W.heap.size, 0, none⟩) M M) (W.alloc (.cells ((List.replicate M (0 : Int)).map (Value.int .u8)).toArray 5)) := by
    intro K W e
    subst e
    exact make_bytes M (by omega) W
  by_cases hn : most < 0
  · have HM : Hid (0 = (M : Int)) := by show (0 : Int) = (M : Int); rw [hM, if_pos hn]; rfl
    have hm := fun W => hmk 0 W HM.out
    have HN := Lib.hid (new_made w _ M hM2 rfl)
    clear hmk hM hM2 h0
    go_enter Try.func113, Try.ntmps113
    go_wp2
    go_ret
    exact ⟨_, _, rfl, HN.out⟩
  · by_cases hx : 65536 < most
    · have HM : Hid (65536 = (M : Int)) := by show (65536 : Int) = (M : Int); rw [hM, if_neg hn, if_pos hx]
      have hm := fun W => hmk 65536 W HM.out
      have HN := Lib.hid (new_made w _ M hM2 rfl)
      clear hmk hM hM2 h0
      go_enter Try.func113, Try.ntmps113
      go_wp2
      go_ret
      exact ⟨_, _, rfl, HN.out⟩
    · have HM : Hid (most = (M : Int)) := by show most = (M : Int); rw [hM, if_neg hn, if_neg hx]
      have hm := fun W => hmk most W HM.out
      have HN := Lib.hid (new_made w _ M hM2 rfl)
      clear hmk hM hM2 h0
      go_enter Try.func113, Try.ntmps113
      go_wp2
      go_ret
      exact ⟨_, _, rfl, HN.out⟩

end Go.Proofs.Ythmendcdfhlkkaa

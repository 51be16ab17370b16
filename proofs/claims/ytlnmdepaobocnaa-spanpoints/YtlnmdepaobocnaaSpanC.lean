/- The closures of the search for the spans near one. No statement is proved here. -/
import Derived.Test.YtlnmdepaobocnaaSpan3
namespace Go.Proofs.Ytlnmdepaobocnaa
open Go.ChangeShapes Go.WideShapes Go.ChangeAt Go.RowKit
set_option linter.unusedVariables false
set_option linter.unusedSimpArgs false

/-- A box that holds a span. -/
def SB (w : World) (b : Nat) (s : Sp) : Prop := b < w.heap.size ∧ w.cell? ⟨b, 0, none⟩ = some (.int .i64 s.1) ∧ w.cell? ⟨b, 1, none⟩ = some (.int .i64 s.2.1) ∧ w.cell? ⟨b, 2, none⟩ = some (.int .i64 s.2.2)
theorem SB.below {w w' : World} {b : Nat} {s : Sp} (h : SB w b s) (hb : Below w.heap.size w w') : SB w' b s := ⟨Nat.lt_of_lt_of_le h.1 hb.size, (hb.cell h.1).trans h.2.1, (hb.cell h.1).trans h.2.2.1, (hb.cell h.1).trans h.2.2.2⟩

theorem near1_any (A : Option Addr) (n c bl bs i : Nat) (l : List Sp) (s : Sp) (b : Bool) (W : World) (hl : SL W A n l) (hi : i < n) (hbl : W.cell? ⟨bl, 0, none⟩ = some (.slice A n c)) (hs : SB W bs s) (hb : b = true ↔ ltS (l.getD i sp0) s) :
    Calls Try.prog 41 (#[.int .i64 i] ++ #[.pointer (some ⟨bl, 0, none⟩), .pointer (some ⟨bs, 0, none⟩)]) W fun e w' => e = .returned (.bool (!b)) ∧ Below W.heap.size W w' := by
  obtain ⟨b0, off, rfl, hbs, c0, c1, c2⟩ := hl.at_ i hi
  obtain ⟨x, hx⟩ : ∃ x, l.getD i sp0 = x := ⟨_, rfl⟩
  rw [hx] at c0 c1 c2 hb
  obtain ⟨xt, xf, xu⟩ := x
  obtain ⟨t, f, u⟩ := s
  obtain ⟨_, s0, s1, s2⟩ := hs
  dsimp only at c0 c1 c2 s0 s1 s2
  have hin : (i : Int) < (n : Int) := by omega
  have hi0 : (0 : Int) ≤ (i : Int) := by omega
  have HB := Lib.hid hb
  clear hb hl hx
  go_enter Try.func41, Try.ntmps41
  go_wp2
  go_region_with (first
    | (go_at_call 34
       (with_reducible refine (ahead_any (xt, xf, xu) (t, f, u) b W.drew HB.out).mono ?_)
       rintro e w5 ⟨rfl, hb5⟩
       have HB5 := Lib.hid (below_from (d := 1) hb5)
       clear hb5))
  all_goals go_wp2
  all_goals go_ret
  all_goals exact ⟨rfl, HB5.out⟩

set_option maxHeartbeats 2000000 in
theorem near2_any (A : Option Addr) (n c bl bs bf i k : Nat) (l : List Sp) (s : Sp) (b : Bool) (W : World) (hl : SL W A n l) (hi : k + i < n) (hn : n ≤ 1000000) (hbl : W.cell? ⟨bl, 0, none⟩ = some (.slice A n c)) (hbf : W.cell? ⟨bf, 0, none⟩ = some (.int .i64 (k : Int))) (hs : SB W bs s) (hb : b = true ↔ ltS s (l.getD (k + i) sp0)) :
    Calls Try.prog 42 (#[.int .i64 i] ++ #[.pointer (some ⟨bs, 0, none⟩), .pointer (some ⟨bl, 0, none⟩), .pointer (some ⟨bf, 0, none⟩)]) W fun e w' => e = .returned (.bool b) ∧ Below W.heap.size W w' := by
  obtain ⟨m, hm⟩ : ∃ m, k + i = m := ⟨_, rfl⟩
  rw [hm] at hi hb
  obtain ⟨b0, off, rfl, hbs, c0, c1, c2⟩ := hl.at_ m hi
  obtain ⟨x, hx⟩ : ∃ x, l.getD m sp0 = x := ⟨_, rfl⟩
  rw [hx] at c0 c1 c2 hb
  obtain ⟨xt, xf, xu⟩ := x
  obtain ⟨t, f, u⟩ := s
  obtain ⟨_, s0, s1, s2⟩ := hs
  dsimp only at c0 c1 c2 s0 s1 s2
  have hki : (k : Int) + (i : Int) = (m : Int) := by omega
  have hin : (m : Int) < (n : Int) := by omega
  have hi0 : (0 : Int) ≤ (m : Int) := by omega
  have HB := Lib.hid hb
  have HL := Lib.hid hi
  clear hb hl hx hi
  have hw : IntKind.i64.wrap ((k : Int) + (i : Int)) = (m : Int) := by rw [hki]; exact IntWalk.i64_in _ (by omega)
  clear hm hki
  go_enter Try.func42, Try.ntmps42
  go_wp2
  go_region_with (first
    | (go_at_call 34
       (with_reducible refine (ahead_any (t, f, u) (xt, xf, xu) b W.drew HB.out).mono ?_)
       rintro e w5 ⟨rfl, hb5⟩
       have HB5 := Lib.hid (below_from (d := 1) hb5)
       clear hb5))
  all_goals go_wp2
  all_goals go_ret
  all_goals exact ⟨rfl, HB5.out⟩

end Go.Proofs.Ytlnmdepaobocnaa

/- What the frames of the proofs share: a slice of integers that came in. -/
import Derived.Test.YtielfekkonflfaaApp
namespace Go.Proofs.Ytielfekkonflfaa
open Go.ChangeShapes Go.WideShapes Go.ChangeAt Go.RowKit
set_option linter.unusedVariables false

theorem IsRow.words {w : World} {a : Option Addr} {len cap : Nat} {zs : List Int} (h : IsRow .u16 w a len cap zs) : Words (zs.take len) := fun x hx => wf_u16 (h.wf x hx)
/-- The word that is got at a place, or 0. -/
def gotW (zs : List Int) (n : Nat) (a : Int) : Int := if 0 ≤ a ∧ a + 1 < n then wordAt zs a.toNat else 0
/-- Is there one? -/
def gotB (n : Nat) (a : Int) : Bool := decide (0 ≤ a ∧ a + 1 < n)

theorem wget_any (A : Option Addr) (n c : Nat) (zs : List Int) (a : Int) (w : World) (hr : Row .u8 w w.heap.size A n zs) (hx : Bytes8 zs) (hn : n ≤ 100000) :
    Calls Try.prog 76 #[.slice A n c, .int .i64 a] w (Quiet (.tuple #[.int .u16 (gotW zs n a), .bool (gotB n a)]) w) := by
  by_cases h : 0 ≤ a ∧ a + 1 < n
  · obtain ⟨k, rfl⟩ := Int.eq_ofNat_of_zero_le h.1
    refine (wget_yes A n c zs k w hr hx (by omega) hn).mono fun e w' ⟨he, hd⟩ => ⟨?_, hd⟩
    rw [he]; unfold gotW gotB; rw [if_pos h, decide_eq_true h]; rfl
  · refine (wget_no A n c a w (by omega) hn).mono fun e w' ⟨he, hd⟩ => ⟨?_, 0, hd ▸ rfl⟩
    rw [he]; unfold gotW gotB; rw [if_neg h, decide_eq_false h]

theorem refget_any (A : Option Addr) (n c : Nat) (zs : List Int) (a : Int) (w : World) (hr : Row .u8 w w.heap.size A n zs) (hx : Bytes8 zs) (hn : n ≤ 100000) :
    Calls Try.prog 81 #[.slice A n c, .int .i64 a] w (Quiet (.tuple #[.int .u16 (gotW zs n a), .bool (gotB n a)]) w) := by
  by_cases h : 0 ≤ a ∧ a + 1 < n
  · obtain ⟨k, rfl⟩ := Int.eq_ofNat_of_zero_le h.1
    refine (refget_yes A n c zs k w hr hx (by omega) hn).mono fun e w' ⟨he, hd⟩ => ⟨?_, hd⟩
    rw [he]; unfold gotW gotB; rw [if_pos h, decide_eq_true h]; rfl
  · refine (refget_no A n c a w (by omega) hn).mono fun e w' ⟨he, hd⟩ => ⟨?_, 0, hd ▸ rfl⟩
    rw [he]; unfold gotW gotB; rw [if_neg h, decide_eq_false h]

theorem bytes_put {zs : List Int} (h : Bytes8 zs) (v : Int) (h0 : 0 ≤ v) (h1 : v ≤ 65535) : Bytes8 (zs ++ [v / 256, v % 256]) := by
  intro x hx
  rcases List.mem_append.1 hx with hx | hx
  · exact h x hx
  · simp at hx; omega
theorem word_put (zs : List Int) (n : Nat) (hl : zs.length = n) (v : Int) (h0 : 0 ≤ v) : wordAt (zs ++ [v / 256, v % 256]) n = v := by
  subst hl
  simp [wordAt, List.getD]
  omega

theorem wget_last (A : Option Addr) (n c : Nat) (zs : List Int) (v : Int) (w : World) (hl : zs.length = n) (hr : Row .u8 w w.heap.size A (n + 2) (zs ++ [v / 256, v % 256])) (hx : Bytes8 zs) (hn : n ≤ 1000) (h0 : 0 ≤ v) (h1 : v ≤ 65535) :
    Calls Try.prog 76 #[.slice A (n + 2) c, .int .i64 n] w (Quiet (.tuple #[.int .u16 v, .bool true]) w) := by
  refine (wget_yes A (n + 2) c _ n w hr (bytes_put hx v h0 h1) (by omega) (by omega)).mono fun e w' ⟨he, hd⟩ => ⟨?_, hd⟩
  rw [he, word_put zs n hl v h0]

/-- Put, behind draws: all that is known behind it. -/
theorem wput_all (A : Option Addr) (n c : Nat) (zs : List Int) (v : Int) (w : World) (d : Nat) (hr : Row .u8 w w.heap.size A n zs) (hv0 : 0 ≤ v) (hv1 : v ≤ 65535) (hn : n ≤ 100000) :
    Calls Try.prog 50 #[.slice A n c, .int .u16 v] (w.drewN d) fun e w' => e = .returned (.slice (some ⟨w.heap.size, 0, none⟩) (n + 2) (n + 2)) ∧ Row .u8 w' w'.heap.size (some ⟨w.heap.size, 0, none⟩) (n + 2) (zs ++ [v / 256, v % 256]) ∧ Below w.heap.size w w' := by
  refine (wput_any A n c zs v (w.drewN d) hr hv0 hv1 hn).mono fun e w' ⟨he, hw, hb⟩ => ⟨he, ?_, ⟨hb.os, hb.tape, hb.output, hb.size, hb.block⟩⟩
  have := hw.row
  rw [List.length_append, hr.1] at this
  exact this

end Go.Proofs.Ytielfekkonflfaa

/- What the frames of the proofs share: a slice of integers that came in. -/
import Derived.Test.YtnnnaffhajljaaaApp
import Derived.ShutString
import Derived.ChangeOld
import Derived.Deep.RegionHeld
namespace Go.Proofs.Ytnnnaffhajljaaa
open Go.ChangeShapes Go.WideShapes Go.ChangeAt Go.RowKit
set_option linter.unusedVariables false

theorem own : ownKnob Try.prog.godebug = none := by kernel_rfl
theorem laidOut : laidOutB Try.prog = true := by kernel_rfl

/-- What is known of a slice of integers that came in: nil, or an address with all its cells up to the capacity. -/
def IsRow (k : IntKind) (w : World) (a : Option Addr) (len cap : Nat) (zs : List Int) : Prop :=
  (a = none ∧ len = 0 ∧ cap = 0 ∧ zs = []) ∨
  ∃ x, a = some x ∧ len ≤ cap ∧ cap ≤ maxLen ∧ zs.length = cap ∧ (∀ i, i < zs.length → w.cell? (x.add i) = some (.int k (zs.getD i 0))) ∧ ∀ n ∈ zs, (Lit.int k n).wf = true

theorem IsRow.row {k : IntKind} {w : World} {a : Option Addr} {len cap : Nat} {zs : List Int} (h : IsRow k w a len cap zs) : Row k w w.heap.size a len (zs.take len) := by
  rcases h with ⟨rfl, rfl, rfl, rfl⟩ | ⟨x, rfl, hl, hm, hz, hcell, hwz⟩
  · exact ⟨rfl, fun h => absurd h (by omega)⟩
  · refine ⟨by rw [List.length_take]; omega, fun h0 => ?_⟩
    obtain ⟨b, off, spot⟩ := x
    have hc := hcell 0 (by omega)
    have hspot : spot = none := by simpa [Addr.add] using World.cell?_spot hc
    subst hspot
    refine ⟨b, off, rfl, ?_, fun j hj => ?_⟩
    · have := World.block_lt_of_cell? w _ hc
      simpa [Addr.add] using this
    · have h2 := hcell j (by omega)
      have e : (Addr.add ⟨b, off, none⟩ j) = ⟨b, off + j, none⟩ := by
        unfold Addr.add
        split
        · rename_i h; subst h; rfl
        · rfl
      rw [e] at h2
      rw [h2]
      simp [List.getD, hj]

theorem IsRow.wf {k : IntKind} {w : World} {a : Option Addr} {len cap : Nat} {zs : List Int} (h : IsRow k w a len cap zs) : ∀ n ∈ zs.take len, (Lit.int k n).wf = true := by
  rcases h with ⟨rfl, rfl, rfl, rfl⟩ | ⟨x, rfl, hl, hm, hz, hcell, hwz⟩
  · intro n hn; simp at hn
  · exact fun n hn => hwz n (List.mem_of_mem_take hn)

theorem IsRow.bytes {w : World} {a : Option Addr} {len cap : Nat} {zs : List Int} (h : IsRow .u8 w a len cap zs) : Bytes8 (zs.take len) := fun x hx => by
  have := bounds_u8 (h.wf x hx)
  omega
theorem IsRow.words {w : World} {a : Option Addr} {len cap : Nat} {zs : List Int} (h : IsRow .u16 w a len cap zs) : Words (zs.take len) := fun x hx => wf_u16 (h.wf x hx)
theorem IsRow.le {k : IntKind} {w : World} {a : Option Addr} {len cap : Nat} {zs : List Int} (h : IsRow k w a len cap zs) : len ≤ maxLen := by
  rcases h with ⟨rfl, rfl, rfl, rfl⟩ | ⟨x, rfl, hl, hm, hz, hcell, hwz⟩
  · simp [maxLen]
  · omega

/-- The word that is got at a place, or 0. -/
def gotW (zs : List Int) (n : Nat) (a : Int) : Int := if 0 ≤ a ∧ a + 1 < n then wordAt zs a.toNat else 0
/-- Is there one? -/
def gotB (n : Nat) (a : Int) : Bool := decide (0 ≤ a ∧ a + 1 < n)

/-- It returned v, and only draws went by. -/
def Quiet (v : Value) (w : World) (e : Ending) (w' : World) : Prop := e = .returned v ∧ ∃ d, w' = w.drewN d

theorem get_any (A : Option Addr) (n c : Nat) (zs : List Int) (a : Int) (w : World) (hr : Row .u8 w w.heap.size A n zs) (hx : Bytes8 zs) (hn : n ≤ 100000) :
    Calls Try.prog 11 #[.slice A n c, .int .i64 a] w (Quiet (.tuple #[.int .u16 (gotW zs n a), .bool (gotB n a)]) w) := by
  by_cases h : 0 ≤ a ∧ a + 1 < n
  · obtain ⟨k, rfl⟩ := Int.eq_ofNat_of_zero_le h.1
    refine (get_yes A n c zs k w hr hx (by omega) hn).mono fun e w' ⟨he, hd⟩ => ⟨?_, hd⟩
    rw [he]; unfold gotW gotB; rw [if_pos h, decide_eq_true h]; rfl
  · refine (get_no A n c a w (by omega) hn).mono fun e w' ⟨he, hd⟩ => ⟨?_, 0, hd ▸ rfl⟩
    rw [he]; unfold gotW gotB; rw [if_neg h, decide_eq_false h]

theorem refget_any (A : Option Addr) (n c : Nat) (zs : List Int) (a : Int) (w : World) (hr : Row .u8 w w.heap.size A n zs) (hx : Bytes8 zs) (hn : n ≤ 100000) :
    Calls Try.prog 12 #[.slice A n c, .int .i64 a] w (Quiet (.tuple #[.int .u16 (gotW zs n a), .bool (gotB n a)]) w) := by
  by_cases h : 0 ≤ a ∧ a + 1 < n
  · obtain ⟨k, rfl⟩ := Int.eq_ofNat_of_zero_le h.1
    refine (refget_yes A n c zs k w hr hx (by omega) hn).mono fun e w' ⟨he, hd⟩ => ⟨?_, hd⟩
    rw [he]; unfold gotW gotB; rw [if_pos h, decide_eq_true h]; rfl
  · refine (refget_no A n c a w (by omega) hn).mono fun e w' ⟨he, hd⟩ => ⟨?_, 0, hd ▸ rfl⟩
    rw [he]; unfold gotW gotB; rw [if_neg h, decide_eq_false h]

theorem bytes_put {zs : List Int} (h : Bytes8 zs) (v : Int) (h0 : 0 ≤ v) (h1 : v ≤ 65535) : Bytes8 (zs ++ [v / 256, v % 256]) := by
  intro x hx
  rcases List.mem_append.1 hx with hx | hx
  · exact h x hx
  · simp at hx; omega
theorem word_put (zs : List Int) (n : Nat) (hl : zs.length = n) (v : Int) (h0 : 0 ≤ v) : wordAt (zs ++ [v / 256, v % 256]) n = v := by
  subst hl
  simp [wordAt, List.getD]
  omega

theorem get_last (A : Option Addr) (n c : Nat) (zs : List Int) (v : Int) (w : World) (hl : zs.length = n) (hr : Row .u8 w w.heap.size A (n + 2) (zs ++ [v / 256, v % 256])) (hx : Bytes8 zs) (hn : n ≤ 1000) (h0 : 0 ≤ v) (h1 : v ≤ 65535) :
    Calls Try.prog 11 #[.slice A (n + 2) c, .int .i64 n] w (Quiet (.tuple #[.int .u16 v, .bool true]) w) := by
  refine (get_yes A (n + 2) c _ n w hr (bytes_put hx v h0 h1) (by omega) (by omega)).mono fun e w' ⟨he, hd⟩ => ⟨?_, hd⟩
  rw [he, word_put zs n hl v h0]

theorem Row.drewN {k : IntKind} {w : World} {B : Nat} {A : Option Addr} {n : Nat} {zs : List Int} (h : Row k w B A n zs) (d : Nat) : Row k (w.drewN d) B A n zs := h
theorem Whole.drewN {k : IntKind} {w : World} {g : Nat} {t : TypeId} {zs : List Int} (h : Whole k w g t zs) (d : Nat) : Whole k (w.drewN d) g t zs := h
theorem below_drewN {B : Nat} {a w : World} (h : Below B a w) (n : Nat) : Below B a (w.drewN n) := ⟨h.os, h.tape, h.output, h.size, h.block⟩
/-- The first n of a row. -/
theorem Row.front {k : IntKind} {w : World} {B : Nat} {A : Option Addr} {n m : Nat} {zs ys : List Int} (h : Row k w B A (n + m) (zs ++ ys)) (hl : zs.length = n) : Row k w B A n zs :=
  ⟨hl, fun h0 => by
    obtain ⟨b, off, e, hb, hc⟩ := h.2 (by omega)
    refine ⟨b, off, e, hb, fun j hj => ?_⟩
    rw [hc j (by omega)]
    simp [List.getD, List.getElem?_append, hl, hj]⟩

theorem lent_all (A : Option Addr) (n c : Nat) (zs : List Int) (w : World) (hr : Row .u8 w w.heap.size A n zs) (hn : n ≤ 100000) :
    Calls Try.prog 10 #[.slice A n c] w fun e w' => e = .returned (.slice (some ⟨w.heap.size, 0, none⟩) n (n + 3)) ∧ Row .u8 w' w'.heap.size A n zs ∧ Row .u8 w' w'.heap.size (some ⟨w.heap.size, 0, none⟩) n zs ∧
      Whole .u8 w' w.heap.size 5 (zs ++ [165, 165, 165]) ∧ Below w.heap.size w w' ∧ w.heap.size < w'.heap.size := by
  refine (lent_any A n c zs w hr hn).mono fun e w' ⟨he, hw, hb⟩ => ⟨he, (hr.below hb).more hb.size, ?_, hw, hb, hw.lt⟩
  have := hw.row
  rw [List.length_append, hr.1] at this
  exact this.front hr.1

theorem conv_row (A : Option Addr) (n c : Nat) (zs : List Int) (w : World) (hr : Row .u8 w w.heap.size A n zs) (h : 0 < n) : (convert 22 9 (.slice A n c)).run Try.prog w = .ok (.string (strOfNums zs)) w := by
  obtain ⟨b, off, rfl, hb, hcell⟩ := hr.2 h
  exact run_convert_bytes_arg w 22 5 Try.underlying22 Try.underlying5 b off n c zs hr.1 hcell 9 (by kernel_rfl)

/-- Put, behind draws: all that is known behind it. -/
theorem put_all (A : Option Addr) (n c : Nat) (zs : List Int) (v : Int) (w : World) (d : Nat) (hr : Row .u8 w w.heap.size A n zs) (hv0 : 0 ≤ v) (hv1 : v ≤ 65535) (hn : n ≤ 100000) :
    Calls Try.prog 13 #[.slice A n c, .int .u16 v] (w.drewN d) fun e w' => e = .returned (.slice (some ⟨w.heap.size, 0, none⟩) (n + 2) (n + 2)) ∧ Row .u8 w' w'.heap.size (some ⟨w.heap.size, 0, none⟩) (n + 2) (zs ++ [v / 256, v % 256]) ∧ Below w.heap.size w w' := by
  refine (put_any A n c zs v (w.drewN d) hr hv0 hv1 hn).mono fun e w' ⟨he, hw, hb⟩ => ⟨he, ?_, ⟨hb.os, hb.tape, hb.output, hb.size, hb.block⟩⟩
  have := hw.row
  rw [List.length_append, hr.1] at this
  exact this

/-- The document's Put in a world that keeps what w has. -/
theorem refput_kept (A : Option Addr) (n c : Nat) (zs : List Int) (v : Int) (w W : World) (hr : Row .u8 w w.heap.size A n zs) (hv0 : 0 ≤ v) (hv1 : v ≤ 65535) (hn : n ≤ 100000) (hk : Below w.heap.size w W) :
    Calls Try.prog 14 #[.slice A n c, .int .u16 v] W fun e w' => ∃ g cap, e = .returned (.slice (some ⟨g, 0, none⟩) (n + 2) cap) ∧ (convert 22 9 (.slice (some ⟨g, 0, none⟩) (n + 2) cap)).run Try.prog w' = .ok (.string (strOfNums (zs ++ [v / 256, v % 256]))) w' ∧ Below w.heap.size w w' := by
  refine (refput_any A n c zs v W ((hr.below hk).more hk.size) hv0 hv1 hn).mono fun e w' ⟨g, cap, he, hrow, hb⟩ => ⟨g, cap, he, conv_row _ _ _ _ _ hrow (by omega), hk.trans (hb.mono hk.size)⟩

theorem stays_kept (A : Option Addr) (n c g : Nat) (zs : List Int) (w W : World) (hr : Row .u8 w w.heap.size A n zs) (hw : Whole .u8 w g 5 (zs ++ [165, 165, 165])) (hn : n ≤ 100000) (hk : Below w.heap.size w W) :
    Calls Try.prog 15 #[.slice (some ⟨g, 0, none⟩) n (n + 3), .slice A n c] W (Quiet (.bool true) W) :=
  stays_any A n c g zs W ((hr.below hk).more hk.size) (hw.below hk hw.lt) hn

end Go.Proofs.Ytnnnaffhajljaaa

/- The examples of chapter 2; contracts in worlds that keep what was there. -/
import Derived.Test.YthcehfofifdmbaaRefMore
import Derived.Test.YthcehfofifdmbaaLentBytes
namespace Go.Proofs.Ythcehfofifdmbaa
open Go.ChangeShapes Go.WideShapes Go.ChangeAt Go.RowKit
set_option linter.unusedVariables false

theorem pack_all (A : Option Addr) (n c : Nat) (bs : List Bool) (w : World) (hr : BRow w w.heap.size A n bs) (hn : n ≤ 100000) :
    Calls Try.prog 10 #[.slice A n c] w fun e w' => e = .returned (.slice (some ⟨w.heap.size, 0, none⟩) (nb n) (nb n)) ∧ Row .u8 w' w'.heap.size (some ⟨w.heap.size, 0, none⟩) (nb n) (pk bs n) ∧ Below w.heap.size w w' := by
  refine (pack_any A n c bs w hr hn).mono fun e w' ⟨he, hw, hb⟩ => ⟨he, ?_, hb⟩
  have := hw.row
  rwa [pk_length, hr.1] at this
theorem unpack_all (A : Option Addr) (n c : Nat) (zs : List Int) (w : World) (hr : Row .u8 w w.heap.size A (nb n) zs) (hx : Bytes8 zs) (hn : n ≤ 100000) :
    Calls Try.prog 11 #[.slice A (nb n) c, .int .i64 (n : Int)] w fun e w' => e = .returned (.tuple #[.slice (some ⟨w.heap.size, 0, none⟩) n n, .bool true]) ∧ BRow w' w'.heap.size (some ⟨w.heap.size, 0, none⟩) n (unb zs n) ∧ Below w.heap.size w w' := by
  refine (unpack_yes A n c zs w hr hx hn).mono fun e w' ⟨he, hw, hb⟩ => ⟨he, ?_, hb⟩
  have := hw.row.bools
  rwa [List.length_map, unb_length] at this
theorem set_all (A : Option Addr) (n c : Nat) (zs : List Int) (i : Int) (v : Bool) (w : World) (hr : Row .u8 w w.heap.size A n zs) (hx : Bytes8 zs) (h0 : -9223372036854775808 ≤ i) (h1 : i ≤ 9223372036854775807) (hn : n ≤ 100000) :
    Calls Try.prog 21 #[.slice A n c, .int .i64 i, .bool v] w fun e w' => e = .returned (.slice (some ⟨w.heap.size, 0, none⟩) n n) ∧ Row .u8 w' w'.heap.size (some ⟨w.heap.size, 0, none⟩) n (setI zs n i v) ∧ Below w.heap.size w w' := by
  refine (set_any A n c zs i v w hr hx h0 h1 hn).mono fun e w' ⟨he, hw, hb⟩ => ⟨he, ?_, hb⟩
  have := hw.row
  have hl : (setI zs n i v).length = n := by unfold setI; split <;> simp [setB_length, hr.1]
  rwa [hl] at this
theorem setI_bytes {zs : List Int} (h : Bytes8 zs) (n : Nat) (i : Int) (v : Bool) : Bytes8 (setI zs n i v) := by
  unfold setI
  split
  · exact setB_bytes h _ _
  · exact h

theorem refpack_kept (A : Option Addr) (n c : Nat) (bs : List Bool) (w W : World) (hr : BRow w w.heap.size A n bs) (hn : n ≤ 100000) (hk : Below w.heap.size w W) :
    Calls Try.prog 12 #[.slice A n c] W fun e w' => ∃ g, e = .returned (.slice (some ⟨g, 0, none⟩) (nb n) (nb n)) ∧ (convert 25 9 (.slice (some ⟨g, 0, none⟩) (nb n) (nb n))).run Try.prog w' = .ok (.string (strOfNums (pk bs n))) w' ∧ Below w.heap.size w w' := by
  refine (refpack_any A n c bs W ((hr.below hk).more hk.size) hn).mono fun e w' ⟨he, hw, hb⟩ => ⟨_, he, ?_, hk.trans (hb.mono hk.size)⟩
  have := hw.row
  rw [pk_length, hr.1] at this
  exact conv_row _ _ _ _ _ this
theorem refset_kept (A : Option Addr) (n c : Nat) (zs : List Int) (i : Int) (v : Bool) (w W : World) (hr : Row .u8 w w.heap.size A n zs) (hx : Bytes8 zs) (h0 : -9223372036854775808 ≤ i) (h1 : i ≤ 9223372036854775807) (hn : n ≤ 100000) (hk : Below w.heap.size w W) :
    Calls Try.prog 22 #[.slice A n c, .int .i64 i, .bool v] W fun e w' => ∃ B d, e = .returned (.slice B n d) ∧ (convert 25 9 (.slice B n d)).run Try.prog w' = .ok (.string (strOfNums (setI zs n i v))) w' ∧ Below w.heap.size w w' := by
  refine (refset_any A n c zs i v W ((hr.below hk).more hk.size) hx h0 h1 hn).mono fun e w' ⟨B, d, he, hw, hb⟩ => ⟨B, d, he, conv_row _ _ _ _ _ hw, hk.trans (hb.mono hk.size)⟩
theorem samebits_kept (A B : Option Addr) (n c d : Nat) (bs : List Bool) (w W : World) (ha : BRow w w.heap.size A n bs) (hb : BRow w w.heap.size B n bs) (hn : n ≤ 100000) (hk : Below w.heap.size w W) :
    Calls Try.prog 13 #[.slice A n c, .slice B n d] W (Quiet (.bool true) W) :=
  samebits_yes A B n c d bs W ((ha.below hk).more hk.size) ((hb.below hk).more hk.size) hn

theorem pack_example (w : World) : Calls Try.prog 10 #[.slice (some ⟨w.heap.size, 0, none⟩) 3 3] (w.alloc (.cells #[.bool true, .bool false, .bool true] 4)) fun e w' =>
    ∃ g, e = .returned (.slice (some ⟨g, 0, none⟩) 1 1) ∧ g < w'.heap.size ∧ w'.cell? ⟨g, 0, none⟩ = some (.int .u8 5) ∧ Below w.heap.size w w' := by
  have hw : WholeV (w.alloc (.cells #[.bool true, .bool false, .bool true] 4)) w.heap.size 4 ([true, false, true].map Value.bool) := heap_alloc_new w _
  refine (pack_any _ 3 3 [true, false, true] _ hw.row.bools (by omega)).mono fun e w' ⟨he, hp, hb⟩ => ⟨_, he, hp.lt, ?_, ((Below.refl w.heap.size w).alloc (Nat.le_refl _) _).trans (hb.mono (by simp))⟩
  have h := hp.cell 0 (by decide)
  exact h
theorem unpack_example (w : World) : Calls Try.prog 11 #[.slice (some ⟨w.heap.size, 0, none⟩) 1 1, .int .i64 2] (w.alloc (.cells #[.int .u8 255] 5)) fun e w' =>
    ∃ g, e = .returned (.tuple #[.slice (some ⟨g, 0, none⟩) 2 2, .bool true]) ∧ w'.cell? ⟨g, 0, none⟩ = some (.bool true) ∧ w'.cell? ⟨g, 1, none⟩ = some (.bool true) ∧ Below w.heap.size w w' := by
  have hw : Whole .u8 (w.alloc (.cells #[.int .u8 255] 5)) w.heap.size 5 [255] := heap_alloc_new w _
  refine (unpack_yes _ 2 1 [255] _ hw.row (by intro x hx; simp at hx; omega) (by omega)).mono fun e w' ⟨he, hp, hb⟩ => ⟨_, he, ?_, ?_, ((Below.refl w.heap.size w).alloc (Nat.le_refl _) _).trans (hb.mono (by simp))⟩
  · exact (hp.cell 0).trans rfl
  · exact (hp.cell 1).trans rfl
theorem bytes_example (w : World) : Calls Try.prog 17 #[.int .i64 9] w fun e w' => e = .returned (.int .i64 2) ∧ w = w' := bytes_nat 9 w (by omega)

theorem awake_any (w : World) : Calls Try.prog 8 #[] w fun e w' => e = .returned (.bool true) ∧ Below w.heap.size w w' := by
  go_enter Try.func8, Try.ntmps8
  go_wp2_with (first
    | (go_at_call 10
       refine (pack_example _).mono ?_
       rintro e w1 ⟨g1, rfl, hg1, hc1, hb⟩
       have HB1 := Lib.hid hb
       clear hb)
    | (go_at_call 11
       refine (unpack_example _).mono ?_
       rintro e w2 ⟨g2, rfl, hc2, hc3, hb⟩
       have hc4 : w2.cell? ⟨g1, 0, none⟩ = some (.int .u8 5) := (hb.cell hg1).trans hc1
       have HB2 := Lib.hid (HB1.out.trans (hb.mono HB1.out.size))
       clear hb)
    | (go_at_call 17
       refine (bytes_example _).mono ?_
       rintro e w3 ⟨rfl, rfl⟩))
  go_ret
  exact ⟨rfl, HB2.out⟩

end Go.Proofs.Ythcehfofifdmbaa

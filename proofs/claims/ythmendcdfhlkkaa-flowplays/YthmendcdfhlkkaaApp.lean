/- Append onto a row of the call's own, whatever the source; the contract of the document's Put. -/
import Derived.Test.YthmendcdfhlkkaaBytes
namespace Go.Proofs.Ythmendcdfhlkkaa
open Go.RowKit
set_option linter.unusedVariables false

theorem refput_own (A : Option Addr) (n c : Nat) (zs : List Int) (v : Int) (w : World) (hr : Row .u8 w w.heap.size A n zs) (hv0 : 0 ≤ v) (hv1 : v ≤ 65535) (hn : n ≤ 100000) :
    Calls Try.prog 120 #[.slice A n c, .int .u16 v] w fun e w' => ∃ g cap, e = .returned (.slice (some ⟨g, 0, none⟩) (n + 2) cap) ∧ w'.ownsRow w.heap.size 5 1 (.slice (some ⟨g, 0, none⟩) (n + 2) cap) (n + 2) ((zs ++ [v / 256, v % 256]).map (Value.int .u8)) ∧ Below w.heap.size w w' := by
  have HR := Lib.hid hr
  have hown0 : w.ownsRow w.heap.size 5 1 (.slice none 0 0) 0 [] := ⟨by simp, .inl ⟨rfl, rfl⟩⟩
  have HO := Lib.hid hown0
  have hq : IntKind.u16.wrap (v.tdiv 256) = v / 256 := by
    rw [Int.tdiv_eq_ediv_of_nonneg hv0]
    exact IntWalk.u16_in _ (by omega)
  clear hr hown0
  go_enter Try.func120, Try.ntmps120
  go_wp2_with (first
    | (at_builtin
       refine wpList_append_row _ (o := ⟨some 6, _, _, _, _, _⟩) rfl (.const (.slice none 0 0)) (.tmp 5) 22 rfl w.heap.size 5 (.int .u8 0) 1 Try.underlying22 info5 rfl (.slice none 0 0) 0 [] rfl HO.out w.heap.size A n c _ rfl HR.out.v (one_cells _ _) (by omega) (by omega) (Nat.le_refl _) ?_
       intro v1 w1 hown1 hg1 hat1
       have hb1 : Below w.heap.size w w1 := (Below.refl _ _).grown hg1 (Nat.le_refl _) (by simp [Value.ownBlock])
       have hw : Whole .u8 (w1.alloc (.cells #[.int .u8 (v / 256), .int .u8 (v % 256)] 5)) w1.heap.size 5 [v / 256, v % 256] := heap_alloc_new w1 _
       have HW := Lib.hid hw.row
       have HO1 := Lib.hid (hown1.alloc (o := .cells #[.int .u8 (v / 256), .int .u8 (v % 256)] 5))
       have HB1 := Lib.hid hb1
       have HA1 := Lib.hid hat1
       clear hw hown1 hg1 hat1 hb1)
    | (at_builtin
       refine wpList_append_row _ (o := ⟨some 14, _, _, _, _, _⟩) rfl (.tmp 6) (.tmp 13) 22 rfl w.heap.size 5 (.int .u8 0) 1 Try.underlying22 info5 rfl v1 (0 + n) ([] ++ zs.map (Value.int .u8)) rfl HO1.out _ (some ⟨w1.heap.size, 0, none⟩) 2 2 _ rfl HW.out.v (one_cells _ _) (by omega) (by omega) (by have := HB1.out.size; simp; omega) ?_
       intro v2 w2 hown2 hg2 hat2))
  go_ret
  have hb2 : Below w.heap.size w w2 := (HB1.out.alloc HB1.out.size _).grown hg2 (by have := HB1.out.size; simp; omega) (fun k hk => by
    rcases HA1.out with e | e
    · rw [e] at hk; simp [Value.ownBlock] at hk
    · rw [e] at hk; injection hk with hk; omega)
  have hown3 : w2.ownsRow w.heap.size 5 1 v2 (n + 2) ((zs ++ [v / 256, v % 256]).map (Value.int .u8)) := by
    have := hown2
    simpa using this
  obtain ⟨g, cap, rfl, _, hrow⟩ := row_of_own hown3 (by omega)
  exact ⟨g, cap, rfl, hown3, hb2⟩

theorem refput_any (A : Option Addr) (n c : Nat) (zs : List Int) (v : Int) (w : World) (hr : Row .u8 w w.heap.size A n zs) (hv0 : 0 ≤ v) (hv1 : v ≤ 65535) (hn : n ≤ 100000) :
    Calls Try.prog 120 #[.slice A n c, .int .u16 v] w fun e w' => ∃ g cap, e = .returned (.slice (some ⟨g, 0, none⟩) (n + 2) cap) ∧ Row .u8 w' w'.heap.size (some ⟨g, 0, none⟩) (n + 2) (zs ++ [v / 256, v % 256]) ∧ Below w.heap.size w w' := by
  refine (refput_own A n c zs v w hr hv0 hv1 hn).mono fun e w' ⟨g, cap, he, ho, hb⟩ => ⟨g, cap, he, (own_row ho).ints, hb⟩

end Go.Proofs.Ythmendcdfhlkkaa

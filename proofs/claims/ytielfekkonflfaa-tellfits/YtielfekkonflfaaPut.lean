/- The contract of word.Put. -/
import Derived.Test.YtielfekkonflfaaGen
namespace Go.Proofs.Ytielfekkonflfaa
open Go.RowKit
set_option linter.unusedVariables false
set_option linter.unusedSimpArgs false

theorem splice_new (n : Nat) (cs : List Value) (z : Value) (h : cs.length = n) : splice (List.replicate (n + 2) z) 0 cs = cs ++ [z, z] := by
  unfold splice
  rw [h]
  simp [List.drop_replicate]

theorem wput_any (A : Option Addr) (n c : Nat) (zs : List Int) (v : Int) (w : World) (hr : Row .u8 w w.heap.size A n zs) (hv0 : 0 ≤ v) (hv1 : v ≤ 65535) (hn : n ≤ 100000) :
    Calls Try.prog 50 #[.slice A n c, .int .u16 v] w fun e w' => e = .returned (.slice (some ⟨w.heap.size, 0, none⟩) (n + 2) (n + 2)) ∧ Whole .u8 w' w.heap.size 5 (zs ++ [v / 256, v % 256]) ∧ Below w.heap.size w w' := by
  have hmk : ∀ W : World, (Instr.makeSlice 30 (.int .i64 (↑n + 2)) (.int .i64 (↑n + 2))).run Try.prog W = .ok (.slice (some ⟨W.heap.size, 0, none⟩) (n + 2) (n + 2)) (W.alloc (.cells ((List.replicate (n + 2) (0 : Int)).map (Value.int .u8)).toArray 5)) :=
    fun W => make_bytes (n + 2) (by omega) W
  obtain ⟨cs, hcs⟩ : ∃ cs, cs = zs.map (Value.int .u8) := ⟨_, rfl⟩
  have hlen : cs.length = n := by rw [hcs, List.length_map]; exact hr.1
  have hin : ((n : Nat) : Int) < ((n + 2 : Nat) : Int) := by omega
  have hsrc : 0 < cs.length → ∃ ad, A = some ad ∧ ∀ j v, cs[j]? = some v → (w.alloc (.cells (Array.replicate (n + 2) (Value.int .u8 0)) 5)).cell? (ad.add j) = some v := by
    intro h0
    obtain ⟨ad, e, hb, hc⟩ := hr.src (by omega)
    refine ⟨ad, e, fun j v hv => ?_⟩
    rw [hcs] at hv
    refine Eq.trans (World.cell?_alloc_lt w _ _ ?_) (hc j v hv)
    unfold Addr.add; split <;> exact hb
  have HS := Lib.hid hsrc
  have HC := Lib.hid hcs
  have HL := Lib.hid hlen
  have HN := Lib.hid hr.1
  have h1 : Hid (∀ u ∈ cs, u.oneCell' = true) := by rw [hcs]; exact one_cells _ zs
  clear hr hcs hlen hsrc
  go_enter Try.func50, Try.ntmps50
  go_wp2_with (
      (with_reducible refine wpList_copy_splice (o := ⟨some 12, _, _, _, _, _⟩) rfl _ _ 30 30 rfl 5 Try.underlying30 (by kernel_rfl) _ _ (n + 2) (n + 2) n c rfl rfl w.heap.size 0 (List.replicate (n + 2) (Value.int .u8 0)) 5 (by rw [List.toArray_replicate]; exact heap_alloc_new w _) cs (by rw [HL.out]; exact (Nat.min_eq_left (by omega)).symm) (fun h0 => ⟨rfl, HS.out h0⟩) (by rw [HL.out, List.length_replicate]; omega) h1.out w.heap.size w ((Below.refl _ _).alloc (Nat.le_refl _) _) (Nat.le_refl _) ?_)
      intro w2 HG hB
      have hg0 := HG.out
      rw [splice_new n cs _ HL.out] at hg0
      have hc1 : w2.cell? ⟨w.heap.size, n, none⟩ = some (.int .u8 0) := by rw [cell_of_row w2 _ _ _ _ _ hg0]; simp [HL.out]
      have hc2 : w2.cell? ⟨w.heap.size, n + 1, none⟩ = some (.int .u8 0) := by rw [cell_of_row w2 _ _ _ _ _ hg0]; simp [HL.out]
      have hf1 : w2.frozen? ⟨w.heap.size, n, none⟩ = false := frozen_of_row w2 _ _ _ _ hg0
      have hf2 : w2.frozen? ⟨w.heap.size, n + 1, none⟩ = false := frozen_of_row w2 _ _ _ _ hg0
      have HG0 := Lib.hid hg0
      clear hg0 HG)
  go_ret
  refine ⟨rfl, ?_, (hB.setCell (Nat.le_refl _) _).setCell (Nat.le_refl _) _⟩
  have hq := heap_set _ _ (n + 1) _ _ _ (heap_set _ _ n _ _ _ HG0.out (.int .u8 (v / 256))) (.int .u8 (v % 256))
  unfold Whole
  rw [hq, HC.out]
  congr 2
  have hz := HN.out
  apply Array.toList_inj.1
  subst hz
  simp

end Go.Proofs.Ytielfekkonflfaa

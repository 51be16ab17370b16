/- Bytes that are lent, and whether they stay: LentBytes, StaysBytes. -/
import Derived.Test.YtokljdkbheogoaaGen
namespace Go.Proofs.Ytokljdkbheogoaa
open Go.ChangeShapes Go.WideShapes Go.ChangeAt Go.RowKit
set_option linter.unusedVariables false

/-- The row that is lent, when k marks have been laid. -/
def lentRow (zs : List Int) (k : Nat) : List Int := zs ++ (List.replicate k 165 ++ List.replicate (3 - k) 0)
theorem lentRow_length (zs : List Int) (k : Nat) (h : k ≤ 3) : (lentRow zs k).length = zs.length + 3 := by simp [lentRow]; omega
theorem lentRow_set (zs : List Int) (k : Nat) (h : k < 3) : ((lentRow zs k).map (Value.int .u8)).toArray.setIfInBounds (zs.length + k) (.int .u8 165) = ((lentRow zs (k + 1)).map (Value.int .u8)).toArray := by
  apply Array.toList_inj.1
  unfold lentRow
  match k, h with
  | 0, _ => simp [List.replicate]
  | 1, _ => simp [List.replicate]
  | 2, _ => simp [List.replicate]

theorem lent_any (A : Option Addr) (n c : Nat) (zs : List Int) (w : World) (hr : Row .u8 w w.heap.size A n zs) (hn : n ≤ 100000) :
    Calls Try.prog 11 #[.slice A n c] w fun e w' => e = .returned (.slice (some ⟨w.heap.size, 0, none⟩) n (n + 3)) ∧ Whole .u8 w' w.heap.size 5 (zs ++ [165, 165, 165]) ∧ Below w.heap.size w w' := by
  have hmk : ∀ W : World, (Instr.makeSlice 22 (.int .i64 (↑n + 3)) (.int .i64 (↑n + 3))).run Try.prog W = .ok (.slice (some ⟨W.heap.size, 0, none⟩) (n + 3) (n + 3)) (W.alloc (.cells ((List.replicate (n + 3) (0 : Int)).map (Value.int .u8)).toArray 5)) :=
    fun W => make_bytes (n + 3) (by omega) W
  obtain ⟨cs, hcs⟩ : ∃ cs, cs = zs.map (Value.int .u8) := ⟨_, rfl⟩
  have hlen : cs.length = n := by rw [hcs, List.length_map]; exact hr.1
  have hsrc : 0 < cs.length → ∃ ad, A = some ad ∧ ∀ j v, cs[j]? = some v → (w.alloc (.cells (Array.replicate (n + 3) (Value.int .u8 0)) 5)).cell? (ad.add j) = some v := by
    intro h0
    obtain ⟨ad, e, hb, hc⟩ := hr.src (by omega)
    refine ⟨ad, e, fun j v hv => ?_⟩
    rw [hcs] at hv
    refine Eq.trans (World.cell?_alloc_lt w _ _ ?_) (hc j v hv)
    unfold Addr.add; split <;> exact hb
  have HS := Lib.hid hsrc
  have HC := Lib.hid hcs
  have HL := Lib.hid hlen
  have HN := Lib.hid hr.1
  have h1 : Hid (∀ u ∈ cs, u.oneCell' = true) := by rw [hcs]; exact one_cells _ zs
  clear hr hcs hlen hsrc
  go_enter Try.func11, Try.ntmps11
  go_wp2_with (
      (with_reducible refine wpList_copy_splice (o := ⟨some 11, _, _, _, _, _⟩) rfl _ _ 22 22 rfl 5 Try.underlying22 (by kernel_rfl) _ _ (n + 3) (n + 3) n c rfl rfl w.heap.size 0 (List.replicate (n + 3) (Value.int .u8 0)) 5 (by rw [List.toArray_replicate]; exact heap_alloc_new w _) cs (by rw [HL.out]; exact (Nat.min_eq_left (by omega)).symm) (fun h0 => ⟨rfl, HS.out h0⟩) (by rw [HL.out, List.length_replicate]; omega) h1.out w.heap.size w ((Below.refl _ _).alloc (Nat.le_refl _) _) (Nat.le_refl _) ?_)
      intro w2 HG hB
      have hg0 : Whole .u8 w2 w.heap.size 5 (lentRow zs 0) := by
        have hg0 := HG.out
        rw [splice_any n 3 cs _ HL.out, HC.out] at hg0
        unfold Whole
        rw [hg0]
        simp [lentRow, List.replicate]
      have HW := Lib.hid hg0
      have HB := Lib.hid hB
      clear hg0 hB HG)
  go_loopw [4] (fun i wr => ∃ k : Nat, k ≤ 3 ∧ i = .int .i64 ((n + k : Nat) : Int) ∧ Hid (Whole .u8 wr w.heap.size 5 (lentRow zs k)) ∧ Hid (Below w.heap.size w wr)) (fun i _ => n + 3 - (intOf i).toNat)
  case atStart => exact ⟨0, by omega, rfl, HW, HB⟩
  case round =>
    obtain ⟨k, hk, rfl, HWk, HBk⟩ := hrel
    by_cases hlt : k < 3
    · have hc1 := HWk.out.cell (n + k) (by rw [lentRow_length _ _ hk, HN.out]; omega)
      have hf1 := HWk.out.frozen (n + k)
      go_wp2
      go_roundw
      case rel =>
        refine ⟨k + 1, by omega, by go_num, ?_, HBk.out.setCell (Nat.le_refl _) _⟩
        have hq := heap_set _ _ (n + k) _ _ _ HWk.out (.int .u8 165)
        have hs := lentRow_set zs k hlt
        rw [HN.out] at hs
        rw [hs] at hq
        exact hq
      case measure => simp [intOf]; omega
    · go_wp2
      go_ret
      obtain rfl : k = 3 := by omega
      exact ⟨rfl, HWk.out, HBk.out⟩

theorem stays_any (A : Option Addr) (n c g : Nat) (zs : List Int) (w : World) (hr : Row .u8 w w.heap.size A n zs) (hw : Whole .u8 w g 5 (zs ++ [165, 165, 165])) (hn : n ≤ 100000) :
    Calls Try.prog 15 #[.slice (some ⟨g, 0, none⟩) n (n + 3), .slice A n c] w fun e w' => e = .returned (.bool true) ∧ ∃ d, w' = w.drewN d := by
  have HR := Lib.hid hr
  have HW := Lib.hid hw
  have HN := Lib.hid hr.1
  clear hr hw
  go_enter Try.func15, Try.ntmps15
  go_wp2
  go_loopw [6] (fun i wr => ∃ k d : Nat, k ≤ n + 3 ∧ i = .int .i64 (k : Int) ∧ wr = w.drewN d) (fun i _ => n + 3 - (intOf i).toNat)
  case atStart => exact ⟨0, 0, by omega, rfl, rfl⟩
  case round =>
    obtain ⟨k, d, hk, rfl, rfl⟩ := hrel
    by_cases hlt : k < n + 3
    · by_cases hlt2 : k < n
      · have hc1 : w.cell? ⟨g, k, none⟩ = some (.int .u8 (zs.getD k 0)) := by
          rw [HW.out.cell k (by simp [HN.out]; omega)]
          simp [List.getD, List.getElem?_append, HN.out, hlt2]
        obtain ⟨b, off, rfl, hb, hcell⟩ := HR.out.2 (by omega)
        have hc2 := hcell k hlt2
        have hi1 : (k : Int) < (n : Int) := by omega
        have hi3 : (k : Int) < (n : Int) + 3 := by omega
        have hd : decide (n ≤ k) = false := by simp; omega
        clear hcell
        go_wp2
        go_quiet (fail)
        go_wp2
        go_roundw
        case rel => exact ⟨k + 1, _, by omega, by go_num, rfl⟩
        case measure => simp [intOf]; omega
      · have hc1 : w.cell? ⟨g, k, none⟩ = some (.int .u8 165) := by
          rw [HW.out.cell k (by simp [HN.out]; omega)]
          obtain ⟨m, rfl⟩ : ∃ m, k = n + m := ⟨k - n, by omega⟩
          have hm : m < 3 := by omega
          simp only [List.getD, List.getElem?_append, HN.out, hlt2, if_false, Nat.add_sub_cancel_left]
          match m, hm with
          | 0, _ => rfl
          | 1, _ => rfl
          | 2, _ => rfl
        have hi3 : (k : Int) < (n : Int) + 3 := by omega
        have hd : decide (k < n) = false := by simp; omega
        have hd2 : decide (n ≤ k) = true := by simp; omega
        go_wp2
        go_quiet (fail)
        go_wp2
        go_roundw
        case rel => exact ⟨k + 1, _, by omega, by go_num, rfl⟩
        case measure => simp [intOf]; omega
    · go_wp2
      go_ret
      exact ⟨rfl, _, rfl⟩

theorem lent_all (A : Option Addr) (n c : Nat) (zs : List Int) (w : World) (hr : Row .u8 w w.heap.size A n zs) (hn : n ≤ 100000) :
    Calls Try.prog 11 #[.slice A n c] w fun e w' => e = .returned (.slice (some ⟨w.heap.size, 0, none⟩) n (n + 3)) ∧ Row .u8 w' w'.heap.size A n zs ∧ Row .u8 w' w'.heap.size (some ⟨w.heap.size, 0, none⟩) n zs ∧
      Whole .u8 w' w.heap.size 5 (zs ++ [165, 165, 165]) ∧ Below w.heap.size w w' ∧ w.heap.size < w'.heap.size := by
  refine (lent_any A n c zs w hr hn).mono fun e w' ⟨he, hw, hb⟩ => ⟨he, (hr.below hb).more hb.size, ?_, hw, hb, hw.lt⟩
  have := hw.row
  rw [List.length_append, hr.1] at this
  exact this.front hr.1

theorem stays_kept (A : Option Addr) (n c g : Nat) (zs : List Int) (w W : World) (hr : Row .u8 w w.heap.size A n zs) (hw : Whole .u8 w g 5 (zs ++ [165, 165, 165])) (hn : n ≤ 100000) (hk : Below w.heap.size w W) :
    Calls Try.prog 15 #[.slice (some ⟨g, 0, none⟩) n (n + 3), .slice A n c] W (Quiet (.bool true) W) :=
  stays_any A n c g zs W ((hr.below hk).more hk.size) (hw.below hk hw.lt) hn

end Go.Proofs.Ytokljdkbheogoaa

/- Bools that are lent, whether they stay, whether two rows are alike: LentBits, StaysBits, SameBits. -/
import Derived.Test.YtoljpdamalcjeaaGen
namespace Go.Proofs.Ytoljpdamalcjeaa
open Go.ChangeShapes Go.WideShapes Go.ChangeAt Go.RowKit
set_option linter.unusedVariables false

theorem infoBool : (Try.prog.info? 4).map (fun i => (i.zero, i.size, i.bytes)) = some (some (.bool false), 1, 1) := by kernel_rfl
theorem make_bools (n : Nat) (hn : n ≤ 1000000) (W : World) :
    (Instr.makeSlice 44 (.int .i64 (n : Int)) (.int .i64 (n : Int))).run Try.prog W = .ok (.slice (some ⟨W.heap.size, 0, none⟩) n n) (W.alloc (.cells (List.replicate n (Value.bool false)).toArray 4)) :=
  make_any 44 4 (.bool false) 1 Try.underlying44 infoBool rfl n hn (by omega) W

/-- The row that is lent, when k marks have been laid. -/
def lentB (bs : List Bool) (k : Nat) : List Bool := bs ++ (List.replicate k true ++ List.replicate (3 - k) false)
theorem lentB_length (bs : List Bool) (k : Nat) (h : k ≤ 3) : (lentB bs k).length = bs.length + 3 := by simp [lentB]; omega
theorem lentB_set (bs : List Bool) (k : Nat) (h : k < 3) : (lentB bs k).set (bs.length + k) true = lentB bs (k + 1) := by
  unfold lentB
  match k, h with
  | 0, _ => simp [List.replicate]
  | 1, _ => simp [List.replicate]
  | 2, _ => simp [List.replicate]

theorem bools_at (bs : List Bool) (j : Nat) (h : j < bs.length) : (bs.map Value.bool)[j]? = some (.bool (bs.getD j false)) := by simp [h]

theorem lentbits_any (A : Option Addr) (n c : Nat) (bs : List Bool) (w : World) (hr : BRow w w.heap.size A n bs) (hn : n ≤ 100000) :
    Calls Try.prog 25 #[.slice A n c] w fun e w' => e = .returned (.slice (some ⟨w.heap.size, 0, none⟩) n (n + 3)) ∧ WholeV w' w.heap.size 4 ((bs ++ [true, true, true]).map Value.bool) ∧ Below w.heap.size w w' := by
  have hmk : ∀ W : World, (Instr.makeSlice 44 (.int .i64 (↑n + 3)) (.int .i64 (↑n + 3))).run Try.prog W = .ok (.slice (some ⟨W.heap.size, 0, none⟩) (n + 3) (n + 3)) (W.alloc (.cells (List.replicate (n + 3) (Value.bool false)).toArray 4)) :=
    fun W => make_bools (n + 3) (by omega) W
  obtain ⟨cs, hcs⟩ : ∃ cs, cs = bs.map Value.bool := ⟨_, rfl⟩
  have hlen : cs.length = n := by rw [hcs, List.length_map]; exact hr.1
  have hsrc : 0 < cs.length → ∃ ad, A = some ad ∧ ∀ j v, cs[j]? = some v → (w.alloc (.cells (Array.replicate (n + 3) (Value.bool false)) 4)).cell? (ad.add j) = some v := by
    intro h0
    obtain ⟨ad, e, hb, hc⟩ := hr.src (by omega)
    refine ⟨ad, e, fun j v hv => ?_⟩
    rw [hcs] at hv
    refine Eq.trans (World.cell?_alloc_lt w _ _ ?_) (hc j v hv)
    unfold Addr.add; split <;> exact hb
  have HS := Lib.hid hsrc
  have HC := Lib.hid hcs
  have HL := Lib.hid hlen
  have HN := Lib.hid hr.1
  have h1 : Hid (∀ u ∈ cs, u.oneCell' = true) := by rw [hcs]; exact bools_oneCell bs
  clear hr hcs hlen hsrc
  go_enter Try.func25, Try.ntmps25
  go_wp2_with (
      (with_reducible refine wpList_copy_splice (o := ⟨some 11, _, _, _, _, _⟩) rfl _ _ 44 44 rfl 4 Try.underlying44 (by kernel_rfl) _ _ (n + 3) (n + 3) n c rfl rfl w.heap.size 0 (List.replicate (n + 3) (Value.bool false)) 4 (by rw [List.toArray_replicate]; exact heap_alloc_new w _) cs (by rw [HL.out]; exact (Nat.min_eq_left (by omega)).symm) (fun h0 => ⟨rfl, HS.out h0⟩) (by rw [HL.out, List.length_replicate]; omega) h1.out w.heap.size w ((Below.refl _ _).alloc (Nat.le_refl _) _) (Nat.le_refl _) ?_)
      intro w2 HG hB
      have hg0 : WholeV w2 w.heap.size 4 ((lentB bs 0).map Value.bool) := by
        have hg0 := HG.out
        rw [splice_any n 3 cs _ HL.out, HC.out] at hg0
        unfold WholeV
        rw [hg0]
        simp [lentB, List.replicate]
      have HW := Lib.hid hg0
      have HB := Lib.hid hB
      clear hg0 hB HG)
  go_loopw [4] (fun i wr => ∃ k : Nat, k ≤ 3 ∧ i = .int .i64 ((n + k : Nat) : Int) ∧ Hid (WholeV wr w.heap.size 4 ((lentB bs k).map Value.bool)) ∧ Hid (Below w.heap.size w wr)) (fun i _ => n + 3 - (intOf i).toNat)
  case atStart => exact ⟨0, by omega, rfl, HW, HB⟩
  case round =>
    obtain ⟨k, hk, rfl, HWk, HBk⟩ := hrel
    by_cases hlt : k < 3
    · have hc1 := (HWk.out.cell (n + k)).trans (bools_at _ (n + k) (by rw [lentB_length _ _ hk, HN.out]; omega))
      have hf1 := HWk.out.frozen (n + k)
      go_wp2
      go_roundw
      case rel =>
        refine ⟨k + 1, by omega, by go_num, ?_, HBk.out.setCell (Nat.le_refl _) _⟩
        have hq := HWk.out.set (n + k) (.bool true)
        have hs := lentB_set bs k hlt
        rw [HN.out] at hs
        rw [← List.map_set, hs] at hq
        exact hq
      case measure => simp [intOf]; omega
    · go_wp2
      go_ret
      obtain rfl : k = 3 := by omega
      exact ⟨rfl, HWk.out, HBk.out⟩

theorem staysbits_any (A : Option Addr) (n c g : Nat) (bs : List Bool) (w : World) (hr : BRow w w.heap.size A n bs) (hw : WholeV w g 4 ((bs ++ [true, true, true]).map Value.bool)) (hn : n ≤ 100000) :
    Calls Try.prog 32 #[.slice (some ⟨g, 0, none⟩) n (n + 3), .slice A n c] w (Quiet (.bool true) w) := by
  have HR := Lib.hid hr
  have HW := Lib.hid hw
  have HN := Lib.hid hr.1
  clear hr hw
  go_enter Try.func32, Try.ntmps32
  go_wp2
  go_loopw [6] (fun i wr => ∃ k d : Nat, k ≤ n + 3 ∧ i = .int .i64 (k : Int) ∧ wr = w.drewN d) (fun i _ => n + 3 - (intOf i).toNat)
  case atStart => exact ⟨0, 0, by omega, rfl, rfl⟩
  case round =>
    obtain ⟨k, d, hk, rfl, rfl⟩ := hrel
    by_cases hlt : k < n + 3
    · by_cases hlt2 : k < n
      · have hc1 : w.cell? ⟨g, k, none⟩ = some (.bool (bs.getD k false)) := by
          rw [HW.out.cell k, bools_at _ _ (by simp [HN.out]; omega)]
          simp [List.getD, List.getElem?_append, HN.out, hlt2]
        obtain ⟨b, off, rfl, hb, hcell⟩ := HR.out.2 (by omega)
        have hc2 := hcell k hlt2
        have hi1 : (k : Int) < (n : Int) := by omega
        have hi3 : (k : Int) < (n : Int) + 3 := by omega
        have hd : decide (n ≤ k) = false := by simp; omega
        clear hcell
        go_wp2
        go_quiet (fail)
        go_wp2
        go_roundw
        case rel => exact ⟨k + 1, _, by omega, by go_num, rfl⟩
        case measure => simp [intOf]; omega
      · have hc1 : w.cell? ⟨g, k, none⟩ = some (.bool true) := by
          rw [HW.out.cell k, bools_at _ _ (by simp [HN.out]; omega)]
          obtain ⟨m, rfl⟩ : ∃ m, k = n + m := ⟨k - n, by omega⟩
          have hm : m < 3 := by omega
          simp only [List.getD, List.getElem?_append, HN.out, hlt2, if_false, Nat.add_sub_cancel_left]
          match m, hm with
          | 0, _ => rfl
          | 1, _ => rfl
          | 2, _ => rfl
        have hi3 : (k : Int) < (n : Int) + 3 := by omega
        have hd : decide (k < n) = false := by simp; omega
        have hd2 : decide (n ≤ k) = true := by simp; omega
        go_wp2
        go_quiet (fail)
        go_wp2
        go_roundw
        case rel => exact ⟨k + 1, _, by omega, by go_num, rfl⟩
        case measure => simp [intOf]; omega
    · go_wp2
      go_ret
      exact ⟨rfl, _, rfl⟩

theorem lentbits_all (A : Option Addr) (n c : Nat) (bs : List Bool) (w : World) (hr : BRow w w.heap.size A n bs) (hn : n ≤ 100000) :
    Calls Try.prog 25 #[.slice A n c] w fun e w' => e = .returned (.slice (some ⟨w.heap.size, 0, none⟩) n (n + 3)) ∧ BRow w' w'.heap.size A n bs ∧ BRow w' w'.heap.size (some ⟨w.heap.size, 0, none⟩) n bs ∧
      WholeV w' w.heap.size 4 ((bs ++ [true, true, true]).map Value.bool) ∧ Below w.heap.size w w' ∧ w.heap.size < w'.heap.size := by
  refine (lentbits_any A n c bs w hr hn).mono fun e w' ⟨he, hw, hb⟩ => ⟨he, (hr.below hb).more hb.size, ?_, hw, hb, hw.lt⟩
  have := hw.row.bools
  rw [List.length_map, List.length_append, hr.1] at this
  exact this.front hr.1

theorem staysbits_kept (A : Option Addr) (n c g : Nat) (bs : List Bool) (w W : World) (hr : BRow w w.heap.size A n bs) (hw : WholeV w g 4 ((bs ++ [true, true, true]).map Value.bool)) (hn : n ≤ 100000) (hk : Below w.heap.size w W) :
    Calls Try.prog 32 #[.slice (some ⟨g, 0, none⟩) n (n + 3), .slice A n c] W (Quiet (.bool true) W) :=
  staysbits_any A n c g bs W ((hr.below hk).more hk.size) (hw.below hk hw.lt) hn

end Go.Proofs.Ytoljpdamalcjeaa

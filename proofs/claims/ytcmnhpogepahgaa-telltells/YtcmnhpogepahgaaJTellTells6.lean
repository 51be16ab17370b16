/- Joined: LentWords LentBits Lobj Wide LentObjs. -/
import Derived.Test.YtcmnhpogepahgaaGen
import Derived.Test.YtcmnhpogepahgaaObjs
import Derived.Test.YtcmnhpogepahgaaWithin
namespace Go.Proofs.Ytcmnhpogepahgaa
open Go.ChangeShapes Go.WideShapes Go.ChangeAt Go.RowKit
set_option linter.unusedVariables false
set_option linter.unusedSimpArgs false

theorem infoW : (Try.prog.info? 24).map (fun i => (i.zero, i.size, i.bytes)) = some (some (.int .u16 0), 1, 2) := by kernel_rfl
theorem make_words (n : Nat) (hn : n ≤ 1000000) (W : World) :
    (Instr.makeSlice 23 (.int .i64 (n : Int)) (.int .i64 (n : Int))).run Try.prog W = .ok (.slice (some ⟨W.heap.size, 0, none⟩) n n) (W.alloc (.cells ((List.replicate n (0 : Int)).map (Value.int .u16)).toArray 24)) := by
  have h := make_any (P := Try.prog) 23 24 (.int .u16 0) 2 Try.underlying23 infoW rfl n hn (by omega) W
  rw [h, List.map_replicate]

/-- The row that is lent, when k marks have been laid. -/
def lentRowW (zs : List Int) (k : Nat) : List Int := zs ++ (List.replicate k 42405 ++ List.replicate (3 - k) 0)
theorem lentRowW_length (zs : List Int) (k : Nat) (h : k ≤ 3) : (lentRowW zs k).length = zs.length + 3 := by simp [lentRowW]; omega
theorem lentRowW_set (zs : List Int) (k : Nat) (h : k < 3) : ((lentRowW zs k).map (Value.int .u16)).toArray.setIfInBounds (zs.length + k) (.int .u16 42405) = ((lentRowW zs (k + 1)).map (Value.int .u16)).toArray := by
  apply Array.toList_inj.1
  unfold lentRowW
  match k, h with
  | 0, _ => simp [List.replicate]
  | 1, _ => simp [List.replicate]
  | 2, _ => simp [List.replicate]

theorem lentw_any (A : Option Addr) (n c : Nat) (zs : List Int) (w : World) (hr : Row .u16 w w.heap.size A n zs) (hn : n ≤ 100000) :
    Calls Try.prog 13 #[.slice A n c] w fun e w' => e = .returned (.slice (some ⟨w.heap.size, 0, none⟩) n (n + 3)) ∧ Whole .u16 w' w.heap.size 24 (zs ++ [42405, 42405, 42405]) ∧ Below w.heap.size w w' := by
  have hmk : ∀ W : World, (Instr.makeSlice 23 (.int .i64 (↑n + 3)) (.int .i64 (↑n + 3))).run Try.prog W = .ok (.slice (some ⟨W.heap.size, 0, none⟩) (n + 3) (n + 3)) (W.alloc (.cells ((List.replicate (n + 3) (0 : Int)).map (Value.int .u16)).toArray 24)) :=
    fun W => make_words (n + 3) (by omega) W
  obtain ⟨cs, hcs⟩ : ∃ cs, cs = zs.map (Value.int .u16) := ⟨_, rfl⟩
  have hlen : cs.length = n := by rw [hcs, List.length_map]; exact hr.1
  have hsrc : 0 < cs.length → ∃ ad, A = some ad ∧ ∀ j v, cs[j]? = some v → (w.alloc (.cells (Array.replicate (n + 3) (Value.int .u16 0)) 24)).cell? (ad.add j) = some v := by
    intro h0
    obtain ⟨ad, e, hb, hc⟩ := hr.src (by omega)
    refine ⟨ad, e, fun j v hv => ?_⟩
    rw [hcs] at hv
    refine Eq.trans (World.cell?_alloc_lt w _ _ ?_) (hc j v hv)
    unfold Addr.add; split <;> exact hb
  have HS := Lib.hid hsrc
  have HC := Lib.hid hcs
  have HL := Lib.hid hlen
  have HN := Lib.hid hr.1
  have h1 : Hid (∀ u ∈ cs, u.oneCell' = true) := by rw [hcs]; exact one_cells _ zs
  clear hr hcs hlen hsrc
  go_enter Try.func13, Try.ntmps13
  go_wp2_with (
      (with_reducible refine wpList_copy_splice (o := ⟨some 11, _, _, _, _, _⟩) rfl _ _ 23 23 rfl 24 Try.underlying23 (by kernel_rfl) _ _ (n + 3) (n + 3) n c rfl rfl w.heap.size 0 (List.replicate (n + 3) (Value.int .u16 0)) 24 (by rw [List.toArray_replicate]; exact heap_alloc_new w _) cs (by rw [HL.out]; exact (Nat.min_eq_left (by omega)).symm) (fun h0 => ⟨rfl, HS.out h0⟩) (by rw [HL.out, List.length_replicate]; omega) h1.out w.heap.size w ((Below.refl _ _).alloc (Nat.le_refl _) _) (Nat.le_refl _) ?_)
      intro w2 HG hB
      have hg0 : Whole .u16 w2 w.heap.size 24 (lentRowW zs 0) := by
        have hg0 := HG.out
        rw [splice_any n 3 cs _ HL.out, HC.out] at hg0
        unfold Whole
        rw [hg0]
        simp [lentRowW, List.replicate]
      have HW := Lib.hid hg0
      have HB := Lib.hid hB
      clear hg0 hB HG)
  go_loopw [4] (fun i wr => ∃ k : Nat, k ≤ 3 ∧ i = .int .i64 ((n + k : Nat) : Int) ∧ Hid (Whole .u16 wr w.heap.size 24 (lentRowW zs k)) ∧ Hid (Below w.heap.size w wr)) (fun i _ => n + 3 - (intOf i).toNat)
  case atStart => exact ⟨0, by omega, rfl, HW, HB⟩
  case round =>
    obtain ⟨k, hk, rfl, HWk, HBk⟩ := hrel
    by_cases hlt : k < 3
    · have hc1 := HWk.out.cell (n + k) (by rw [lentRowW_length _ _ hk, HN.out]; omega)
      have hf1 := HWk.out.frozen (n + k)
      go_wp2
      go_roundw
      case rel =>
        refine ⟨k + 1, by omega, by go_num, ?_, HBk.out.setCell (Nat.le_refl _) _⟩
        have hq := heap_set _ _ (n + k) _ _ _ HWk.out (.int .u16 42405)
        have hs := lentRowW_set zs k hlt
        rw [HN.out] at hs
        rw [hs] at hq
        exact hq
      case measure => simp [intOf]; omega
    · go_wp2
      go_ret
      obtain rfl : k = 3 := by omega
      exact ⟨rfl, HWk.out, HBk.out⟩

theorem staysw_any (A : Option Addr) (n c g : Nat) (zs : List Int) (w : World) (hr : Row .u16 w w.heap.size A n zs) (hw : Whole .u16 w g 24 (zs ++ [42405, 42405, 42405])) (hn : n ≤ 100000) :
    Calls Try.prog 20 #[.slice (some ⟨g, 0, none⟩) n (n + 3), .slice A n c] w fun e w' => e = .returned (.bool true) ∧ ∃ d, w' = w.drewN d := by
  have HR := Lib.hid hr
  have HW := Lib.hid hw
  have HN := Lib.hid hr.1
  clear hr hw
  go_enter Try.func20, Try.ntmps20
  go_wp2
  go_loopw [6] (fun i wr => ∃ k d : Nat, k ≤ n + 3 ∧ i = .int .i64 (k : Int) ∧ wr = w.drewN d) (fun i _ => n + 3 - (intOf i).toNat)
  case atStart => exact ⟨0, 0, by omega, rfl, rfl⟩
  case round =>
    obtain ⟨k, d, hk, rfl, rfl⟩ := hrel
    by_cases hlt : k < n + 3
    · by_cases hlt2 : k < n
      · have hc1 : w.cell? ⟨g, k, none⟩ = some (.int .u16 (zs.getD k 0)) := by
          rw [HW.out.cell k (by simp [HN.out]; omega)]
          simp [List.getD, List.getElem?_append, HN.out, hlt2]
        obtain ⟨b, off, rfl, hb, hcell⟩ := HR.out.2 (by omega)
        have hc2 := hcell k hlt2
        have hi1 : (k : Int) < (n : Int) := by omega
        have hi3 : (k : Int) < (n : Int) + 3 := by omega
        have hd : decide (n ≤ k) = false := by simp; omega
        clear hcell
        go_wp2
        go_quiet (fail)
        go_wp2
        go_roundw
        case rel => exact ⟨k + 1, _, by omega, by go_num, rfl⟩
        case measure => simp [intOf]; omega
      · have hc1 : w.cell? ⟨g, k, none⟩ = some (.int .u16 42405) := by
          rw [HW.out.cell k (by simp [HN.out]; omega)]
          obtain ⟨m, rfl⟩ : ∃ m, k = n + m := ⟨k - n, by omega⟩
          have hm : m < 3 := by omega
          simp only [List.getD, List.getElem?_append, HN.out, hlt2, if_false, Nat.add_sub_cancel_left]
          match m, hm with
          | 0, _ => rfl
          | 1, _ => rfl
          | 2, _ => rfl
        have hi3 : (k : Int) < (n : Int) + 3 := by omega
        have hd : decide (k < n) = false := by simp; omega
        have hd2 : decide (n ≤ k) = true := by simp; omega
        go_wp2
        go_quiet (fail)
        go_wp2
        go_roundw
        case rel => exact ⟨k + 1, _, by omega, by go_num, rfl⟩
        case measure => simp [intOf]; omega
    · go_wp2
      go_ret
      exact ⟨rfl, _, rfl⟩

theorem lentw_all (A : Option Addr) (n c : Nat) (zs : List Int) (w : World) (hr : Row .u16 w w.heap.size A n zs) (hn : n ≤ 100000) :
    Calls Try.prog 13 #[.slice A n c] w fun e w' => e = .returned (.slice (some ⟨w.heap.size, 0, none⟩) n (n + 3)) ∧ Row .u16 w' w'.heap.size A n zs ∧ Row .u16 w' w'.heap.size (some ⟨w.heap.size, 0, none⟩) n zs ∧
      Whole .u16 w' w.heap.size 24 (zs ++ [42405, 42405, 42405]) ∧ Below w.heap.size w w' ∧ w.heap.size < w'.heap.size := by
  refine (lentw_any A n c zs w hr hn).mono fun e w' ⟨he, hw, hb⟩ => ⟨he, (hr.below hb).more hb.size, ?_, hw, hb, hw.lt⟩
  have := hw.row
  rw [List.length_append, hr.1] at this
  exact this.front hr.1

theorem staysw_kept (A : Option Addr) (n c g : Nat) (zs : List Int) (w W : World) (hr : Row .u16 w w.heap.size A n zs) (hw : Whole .u16 w g 24 (zs ++ [42405, 42405, 42405])) (hn : n ≤ 100000) (hk : Below w.heap.size w W) :
    Calls Try.prog 20 #[.slice (some ⟨g, 0, none⟩) n (n + 3), .slice A n c] W (Quiet (.bool true) W) :=
  staysw_any A n c g zs W ((hr.below hk).more hk.size) (hw.below hk hw.lt) hn

theorem infoBool : (Try.prog.info? 4).map (fun i => (i.zero, i.size, i.bytes)) = some (some (.bool false), 1, 1) := by kernel_rfl
theorem make_bools (n : Nat) (hn : n ≤ 1000000) (W : World) :
    (Instr.makeSlice 22 (.int .i64 (n : Int)) (.int .i64 (n : Int))).run Try.prog W = .ok (.slice (some ⟨W.heap.size, 0, none⟩) n n) (W.alloc (.cells (List.replicate n (Value.bool false)).toArray 4)) :=
  make_any 22 4 (.bool false) 1 Try.underlying22 infoBool rfl n hn (by omega) W

/-- The row that is lent, when k marks have been laid. -/
def lentB (bs : List Bool) (k : Nat) : List Bool := bs ++ (List.replicate k true ++ List.replicate (3 - k) false)
theorem lentB_length (bs : List Bool) (k : Nat) (h : k ≤ 3) : (lentB bs k).length = bs.length + 3 := by simp [lentB]; omega
theorem lentB_set (bs : List Bool) (k : Nat) (h : k < 3) : (lentB bs k).set (bs.length + k) true = lentB bs (k + 1) := by
  unfold lentB
  match k, h with
  | 0, _ => simp [List.replicate]
  | 1, _ => simp [List.replicate]
  | 2, _ => simp [List.replicate]

theorem bools_at (bs : List Bool) (j : Nat) (h : j < bs.length) : (bs.map Value.bool)[j]? = some (.bool (bs.getD j false)) := by simp [h]

theorem lentbits_any (A : Option Addr) (n c : Nat) (bs : List Bool) (w : World) (hr : BRow w w.heap.size A n bs) (hn : n ≤ 100000) :
    Calls Try.prog 12 #[.slice A n c] w fun e w' => e = .returned (.slice (some ⟨w.heap.size, 0, none⟩) n (n + 3)) ∧ WholeV w' w.heap.size 4 ((bs ++ [true, true, true]).map Value.bool) ∧ Below w.heap.size w w' := by
  have hmk : ∀ W : World, (Instr.makeSlice 22 (.int .i64 (↑n + 3)) (.int .i64 (↑n + 3))).run Try.prog W = .ok (.slice (some ⟨W.heap.size, 0, none⟩) (n + 3) (n + 3)) (W.alloc (.cells (List.replicate (n + 3) (Value.bool false)).toArray 4)) :=
    fun W => make_bools (n + 3) (by omega) W
  obtain ⟨cs, hcs⟩ : ∃ cs, cs = bs.map Value.bool := ⟨_, rfl⟩
  have hlen : cs.length = n := by rw [hcs, List.length_map]; exact hr.1
  have hsrc : 0 < cs.length → ∃ ad, A = some ad ∧ ∀ j v, cs[j]? = some v → (w.alloc (.cells (Array.replicate (n + 3) (Value.bool false)) 4)).cell? (ad.add j) = some v := by
    intro h0
    obtain ⟨ad, e, hb, hc⟩ := hr.src (by omega)
    refine ⟨ad, e, fun j v hv => ?_⟩
    rw [hcs] at hv
    refine Eq.trans (World.cell?_alloc_lt w _ _ ?_) (hc j v hv)
    unfold Addr.add; split <;> exact hb
  have HS := Lib.hid hsrc
  have HC := Lib.hid hcs
  have HL := Lib.hid hlen
  have HN := Lib.hid hr.1
  have h1 : Hid (∀ u ∈ cs, u.oneCell' = true) := by rw [hcs]; exact bools_oneCell bs
  clear hr hcs hlen hsrc
  go_enter Try.func12, Try.ntmps12
  go_wp2_with (
      (with_reducible refine wpList_copy_splice (o := ⟨some 11, _, _, _, _, _⟩) rfl _ _ 22 22 rfl 4 Try.underlying22 (by kernel_rfl) _ _ (n + 3) (n + 3) n c rfl rfl w.heap.size 0 (List.replicate (n + 3) (Value.bool false)) 4 (by rw [List.toArray_replicate]; exact heap_alloc_new w _) cs (by rw [HL.out]; exact (Nat.min_eq_left (by omega)).symm) (fun h0 => ⟨rfl, HS.out h0⟩) (by rw [HL.out, List.length_replicate]; omega) h1.out w.heap.size w ((Below.refl _ _).alloc (Nat.le_refl _) _) (Nat.le_refl _) ?_)
      intro w2 HG hB
      have hg0 : WholeV w2 w.heap.size 4 ((lentB bs 0).map Value.bool) := by
        have hg0 := HG.out
        rw [splice_any n 3 cs _ HL.out, HC.out] at hg0
        unfold WholeV
        rw [hg0]
        simp [lentB, List.replicate]
      have HW := Lib.hid hg0
      have HB := Lib.hid hB
      clear hg0 hB HG)
  go_loopw [4] (fun i wr => ∃ k : Nat, k ≤ 3 ∧ i = .int .i64 ((n + k : Nat) : Int) ∧ Hid (WholeV wr w.heap.size 4 ((lentB bs k).map Value.bool)) ∧ Hid (Below w.heap.size w wr)) (fun i _ => n + 3 - (intOf i).toNat)
  case atStart => exact ⟨0, by omega, rfl, HW, HB⟩
  case round =>
    obtain ⟨k, hk, rfl, HWk, HBk⟩ := hrel
    by_cases hlt : k < 3
    · have hc1 := (HWk.out.cell (n + k)).trans (bools_at _ (n + k) (by rw [lentB_length _ _ hk, HN.out]; omega))
      have hf1 := HWk.out.frozen (n + k)
      go_wp2
      go_roundw
      case rel =>
        refine ⟨k + 1, by omega, by go_num, ?_, HBk.out.setCell (Nat.le_refl _) _⟩
        have hq := HWk.out.set (n + k) (.bool true)
        have hs := lentB_set bs k hlt
        rw [HN.out] at hs
        rw [← List.map_set, hs] at hq
        exact hq
      case measure => simp [intOf]; omega
    · go_wp2
      go_ret
      obtain rfl : k = 3 := by omega
      exact ⟨rfl, HWk.out, HBk.out⟩

theorem staysbits_any (A : Option Addr) (n c g : Nat) (bs : List Bool) (w : World) (hr : BRow w w.heap.size A n bs) (hw : WholeV w g 4 ((bs ++ [true, true, true]).map Value.bool)) (hn : n ≤ 100000) :
    Calls Try.prog 19 #[.slice (some ⟨g, 0, none⟩) n (n + 3), .slice A n c] w (Quiet (.bool true) w) := by
  have HR := Lib.hid hr
  have HW := Lib.hid hw
  have HN := Lib.hid hr.1
  clear hr hw
  go_enter Try.func19, Try.ntmps19
  go_wp2
  go_loopw [6] (fun i wr => ∃ k d : Nat, k ≤ n + 3 ∧ i = .int .i64 (k : Int) ∧ wr = w.drewN d) (fun i _ => n + 3 - (intOf i).toNat)
  case atStart => exact ⟨0, 0, by omega, rfl, rfl⟩
  case round =>
    obtain ⟨k, d, hk, rfl, rfl⟩ := hrel
    by_cases hlt : k < n + 3
    · by_cases hlt2 : k < n
      · have hc1 : w.cell? ⟨g, k, none⟩ = some (.bool (bs.getD k false)) := by
          rw [HW.out.cell k, bools_at _ _ (by simp [HN.out]; omega)]
          simp [List.getD, List.getElem?_append, HN.out, hlt2]
        obtain ⟨b, off, rfl, hb, hcell⟩ := HR.out.2 (by omega)
        have hc2 := hcell k hlt2
        have hi1 : (k : Int) < (n : Int) := by omega
        have hi3 : (k : Int) < (n : Int) + 3 := by omega
        have hd : decide (n ≤ k) = false := by simp; omega
        clear hcell
        go_wp2
        go_quiet (fail)
        go_wp2
        go_roundw
        case rel => exact ⟨k + 1, _, by omega, by go_num, rfl⟩
        case measure => simp [intOf]; omega
      · have hc1 : w.cell? ⟨g, k, none⟩ = some (.bool true) := by
          rw [HW.out.cell k, bools_at _ _ (by simp [HN.out]; omega)]
          obtain ⟨m, rfl⟩ : ∃ m, k = n + m := ⟨k - n, by omega⟩
          have hm : m < 3 := by omega
          simp only [List.getD, List.getElem?_append, HN.out, hlt2, if_false, Nat.add_sub_cancel_left]
          match m, hm with
          | 0, _ => rfl
          | 1, _ => rfl
          | 2, _ => rfl
        have hi3 : (k : Int) < (n : Int) + 3 := by omega
        have hd : decide (k < n) = false := by simp; omega
        have hd2 : decide (n ≤ k) = true := by simp; omega
        go_wp2
        go_quiet (fail)
        go_wp2
        go_roundw
        case rel => exact ⟨k + 1, _, by omega, by go_num, rfl⟩
        case measure => simp [intOf]; omega
    · go_wp2
      go_ret
      exact ⟨rfl, _, rfl⟩

theorem lentbits_all (A : Option Addr) (n c : Nat) (bs : List Bool) (w : World) (hr : BRow w w.heap.size A n bs) (hn : n ≤ 100000) :
    Calls Try.prog 12 #[.slice A n c] w fun e w' => e = .returned (.slice (some ⟨w.heap.size, 0, none⟩) n (n + 3)) ∧ BRow w' w'.heap.size A n bs ∧ BRow w' w'.heap.size (some ⟨w.heap.size, 0, none⟩) n bs ∧
      WholeV w' w.heap.size 4 ((bs ++ [true, true, true]).map Value.bool) ∧ Below w.heap.size w w' ∧ w.heap.size < w'.heap.size := by
  refine (lentbits_any A n c bs w hr hn).mono fun e w' ⟨he, hw, hb⟩ => ⟨he, (hr.below hb).more hb.size, ?_, hw, hb, hw.lt⟩
  have := hw.row.bools
  rw [List.length_map, List.length_append, hr.1] at this
  exact this.front hr.1

theorem staysbits_kept (A : Option Addr) (n c g : Nat) (bs : List Bool) (w W : World) (hr : BRow w w.heap.size A n bs) (hw : WholeV w g 4 ((bs ++ [true, true, true]).map Value.bool)) (hn : n ≤ 100000) (hk : Below w.heap.size w W) :
    Calls Try.prog 19 #[.slice (some ⟨g, 0, none⟩) n (n + 3), .slice A n c] W (Quiet (.bool true) W) :=
  staysbits_any A n c g bs W ((hr.below hk).more hk.size) (hw.below hk hw.lt) hn

/-- Objects such as may be: the first ones 0, 1, 2; rising; none too long. -/
structure goodL (os : List Ob) : Prop where
  l3 : 3 ≤ os.length
  l43 : os.length ≤ 43
  rise : ∀ k, k + 1 < os.length → (os.getD k ob0).1 < (os.getD (k + 1) ob0).1
  z0 : (os.getD 0 ob0).1 = 0
  z1 : (os.getD 1 ob0).1 = 1
  z2 : (os.getD 2 ob0).1 = 2
  byte : ∀ o ∈ os, 0 ≤ o.1 ∧ o.1 ≤ 255
  short : ∀ o ∈ os, o.2.size ≤ 244

theorem goodL.snoc {os : List Ob} (h : goodL os) (id : Int) (s : ByteArray) (hl : os.length < 43) (h0 : (os.getD (os.length - 1) ob0).1 < id) (h1 : id ≤ 255) (hs : s.size ≤ 244) (hid : 0 ≤ id) : goodL (os ++ [(id, s)]) := by
  have l3 := h.l3
  have g : ∀ k, k < os.length → (os ++ [(id, s)]).getD k ob0 = os.getD k ob0 := by
    intro k hk
    simp [List.getD_eq_getElem?_getD, List.getElem?_append_left hk]
  refine ⟨by simp; omega, by simp; omega, ?_, ?_, ?_, ?_, ?_, ?_⟩
  · intro k hk
    simp at hk
    rw [g k (by omega)]
    rcases Nat.lt_or_ge (k + 1) os.length with h2 | h2
    · rw [g _ h2]; exact h.rise k h2
    · have : k + 1 = os.length := by omega
      have hk2 : k = os.length - 1 := by omega
      rw [this, hk2]
      simpa [List.getD_eq_getElem?_getD] using h0
  · rw [g 0 (by omega)]; exact h.z0
  · rw [g 1 (by omega)]; exact h.z1
  · rw [g 2 (by omega)]; exact h.z2
  · intro o ho
    rcases List.mem_append.1 ho with h2 | h2
    · exact h.byte o h2
    · rw [List.mem_singleton.1 h2]; exact ⟨hid, h1⟩
  · intro o ho
    rcases List.mem_append.1 ho with h2 | h2
    · exact h.short o h2
    · rw [List.mem_singleton.1 h2]; exact hs
theorem goodL.set1 {os : List Ob} (h : goodL os) (s : ByteArray) (hs : s.size ≤ 244) : goodL (os.set 1 (1, s)) := by
  have l3 := h.l3
  have g : ∀ k, ((os.set 1 (1, s)).getD k ob0).1 = (os.getD k ob0).1 := by
    intro k
    by_cases hk : k = 1
    · subst hk
      rw [h.z1]
      simp [List.getD_eq_getElem?_getD, show 1 < os.length by omega]
    · simp [List.getD_eq_getElem?_getD, List.getElem?_set, Ne.symm hk]
  refine ⟨by simp; omega, by simp; exact h.l43, ?_, ?_, ?_, ?_, ?_, ?_⟩
  · intro k hk
    simp at hk
    rw [g, g]; exact h.rise k hk
  · rw [g]; exact h.z0
  · rw [g]; exact h.z1
  · rw [g]; exact h.z2
  · intro o ho
    rcases List.mem_or_eq_of_mem_set ho with h2 | h2
    · exact h.byte o h2
    · rw [h2]; exact ⟨(by decide : (0 : Int) ≤ 1), (by decide : (1 : Int) ≤ 255)⟩
  · intro o ho
    rcases List.mem_or_eq_of_mem_set ho with h2 | h2
    · exact h.short o h2
    · rw [h2]; exact hs
theorem obs_set (os : List Ob) (k : Nat) (s : ByteArray) : (obs os).set (2 * k + 1) (.string s) = obs (os.set k ((os.getD k ob0).1, s)) := by
  induction os generalizing k with
  | nil => simp [obs]
  | cons o os ih =>
    cases k with
    | zero => simp [obs_cons]
    | succ k =>
      rw [obs_cons, show 2 * (k + 1) + 1 = (2 * k + 1) + 1 + 1 by omega, List.set_cons_succ, List.set_cons_succ, ih, List.set_cons_succ, obs_cons]
      rfl
theorem size_strOfNums (zs : List Int) : (strOfNums zs).size = zs.length := by
  simp [strOfNums, ByteArray.size]
/-- A row of objects of the call's own, as a block that may be written. -/
theorem own2_open {w : World} {base : Nat} {e : TypeId} {v : Value} {n : Nat} {xs : List Value} (h : w.ownsRow base e 2 v n xs) (hn : 0 < n) : ∃ g cap, v = .slice (some ⟨g, 0, none⟩) n cap ∧ base ≤ g ∧ g < w.heap.size ∧ (∀ i, i < 2 * n → w.cell? ⟨g, i, none⟩ = xs[i]?) ∧ (∀ i, w.frozen? ⟨g, i, none⟩ = false) ∧
    ∀ i u, (w.setCell ⟨g, i, none⟩ u).ownsRow base e 2 v n (xs.set i u) := by
  rcases h.2 with ⟨_, h0⟩ | ⟨g, cap, cur, hv, hb, hh, hnc, hm, hcs, ht⟩
  · omega
  · refine ⟨g, cap, hv, hb, ?_, ?_, ?_, ?_⟩
    · rcases Nat.lt_or_ge g w.heap.size with hlt | hge
      · exact hlt
      · rw [Array.getElem?_eq_none hge] at hh; cases hh
    · intro i hi
      rw [cell_of_row w g i _ _ _ hh]
      have h1 : (List.take (n * 2) cur.toList)[i]? = xs[i]? := by rw [ht]
      rw [List.getElem?_take, if_pos (by omega)] at h1
      rw [← Array.getElem?_toList, h1]
    · intro i
      exact frozen_of_row w g i cur e hh
    · intro i u
      refine ⟨by rw [List.length_set]; exact h.1, .inr ⟨g, cap, cur.setIfInBounds i u, hv, hb, heap_set w g i cur e (0, 0) hh u, hnc, hm, by simpa using hcs, ?_⟩⟩
      rw [← ht]
      simp [List.take_set]

/-- copy into a block of the call's own, from its first cell on: elements of s cells. -/
theorem run_copy_wide {P : Program} (w : World) (dT sT ty elem : TypeId) (s g dLen dCap : Nat) (a : Option Addr) (sLen sCap : Nat) (cur : List Value) (t : TypeId) (cs : List Value)
    (hu : P.underlying dT = some (.slice elem)) (hs : (P.info? elem).map (·.size) = some s) (hg : w.heap[g]? = some (.cells cur.toArray t (0, 0))) (hn : cs.length = sLen * s) (hle : sLen ≤ dLen)
    (hsrc : 0 < cs.length → ∃ ad, a = some ad ∧ ∀ j v, cs[j]? = some v → w.cell? (ad.add j) = some v) (hnil : a = none → sLen = 0) (hfit : cs.length ≤ cur.length) (h1 : ∀ v ∈ cs, v.oneCell' = true) :
    (Builtin.copy_ #[dT, sT] ty #[.slice (some ⟨g, 0, none⟩) dLen dCap, .slice a sLen sCap]).run P w =
      .ok (goInt sLen) (w.setRow g (cs ++ cur.drop cs.length).toArray) := by
  have hst := run_storeCells_at P g 0 t cs 0 cur.toArray w hg (by simpa using hfit) h1
  have hmin : Nat.min sLen dLen = sLen := Nat.min_eq_left hle
  cases hq : P.info? elem with
  | none => simp [hq] at hs
  | some i =>
    have hi : i.size = s := by simpa [hq] using hs
    simp only [Nat.zero_add, List.take_zero, List.nil_append] at hst
    rcases a with _ | ad
    · have h0 := hnil rfl
      subst h0
      obtain rfl : cs = [] := List.eq_nil_of_length_eq_zero (by omega)
      have he := setRow_self w g cur.toArray t (0, 0) hg
      simp [Builtin.copy_, run_underlying hu, Builtin.lenOf, Builtin.firstCells, sizeOf, typeInfo, hq, hi, storeCells, he]
    · have hall : ∀ j v, cs[j]? = some v → w.cell? (ad.add j) = some v := by
        intro j v hv
        have hj : j < cs.length := (List.getElem?_eq_some_iff.1 hv).1
        obtain ⟨ad', he, hc⟩ := hsrc (by omega)
        injection he with he
        subst he
        exact hc j v hv
      have hl := run_loadCells_list (P := P) w ad cs hall
      simp [Builtin.copy_, run_underlying hu, Builtin.lenOf, Builtin.firstCells, sizeOf, typeInfo, hq, hi, hmin, ← hn, hl, hst]

theorem wpList_copy_wide {P : Program} {w : World} {ops : Array Oper} {rest : List Oper} {o : Oper} {a : Act} {Q : Exit → Act → World → Prop} (hgd : o.guard = none) (d s : Operand) (dT sT : TypeId)
    (ho : o.op = .call { callee := .builtin .copy, args := #[d, s], argTypes := #[dT, sT] }) (elem : TypeId) (sz : Nat) (hu : P.underlying dT = some (.slice elem)) (hsz : (P.info? elem).map (·.size) = some sz)
    (g dLen dCap : Nat) (sp : Option Addr) (sLen sCap : Nat) (hd : a.eval d = .slice (some ⟨g, 0, none⟩) dLen dCap) (hs : a.eval s = .slice sp sLen sCap)
    (cur : List Value) (t : TypeId) (hg : w.heap[g]? = some (.cells cur.toArray t (0, 0))) (cs : List Value) (hn : cs.length = sLen * sz) (hle : sLen ≤ dLen)
    (hsrc : 0 < cs.length → ∃ ad, sp = some ad ∧ ∀ j v, cs[j]? = some v → w.cell? (ad.add j) = some v) (hnil : sp = none → sLen = 0)
    (hfit : cs.length ≤ cur.length) (h1 : ∀ v ∈ cs, v.oneCell' = true) (B : Nat) (w0 : World) (hb : Below B w0 w) (hBg : B ≤ g)
    (h : ∀ w', WholeV w' g t (cs ++ cur.drop cs.length) → Below B w0 w' → wpList P ops Q rest (a.put o.dst (goInt sLen)) w') :
    wpList P ops Q (o :: rest) a w := by
  refine wpList_plain hgd fun K hK => ?_
  have hrun := run_copy_wide (P := P) w dT sT o.type elem sz g dLen dCap sp sLen sCap cur t cs hu hsz hg hn hle hsrc hnil hfit h1
  unfold Oper.wp
  simp [execOp, ho, resolve, invoke, builtin, hd, hs, hrun, Result.andThen]
  refine hK _ _ (h _ ?_ (below_setRow hb hBg _))
  unfold WholeV
  exact setRow_heap w g _ _ t _ hg

/-- The mark behind what is lent. -/
def obM : Ob := (7, ⟨#[109]⟩)
theorem obs_set2 (os : List Ob) (k : Nat) (x : Int) (s : ByteArray) : ((obs os).set (k * 2) (.int .i64 x)).set (k * 2 + 1) (.string s) = obs (os.set k (x, s)) := by
  induction os generalizing k with
  | nil => simp [obs]
  | cons o os ih =>
    cases k with
    | zero => simp [obs_cons]
    | succ k =>
      rw [obs_cons, show (k + 1) * 2 = (k * 2) + 1 + 1 by omega, List.set_cons_succ, List.set_cons_succ, List.set_cons_succ, List.set_cons_succ, ih, List.set_cons_succ, obs_cons]
theorem made_obs (n : Nat) : madeCells #[.int .i64 0, .string ByteArray.empty] (n * 2) = (obs (List.replicate n ob0)).toArray := by
  apply Array.toList_inj.1
  apply List.ext_getElem?
  intro j
  have hl : (obs (List.replicate n ob0)).length = 2 * n := by rw [obs_length, List.length_replicate]
  by_cases hj : j < n * 2
  · rcases Nat.mod_two_eq_zero_or_one j with h | h
    · obtain ⟨q, rfl⟩ : ∃ q, j = 2 * q := ⟨j / 2, by omega⟩
      have h2 := obs_id (List.replicate n ob0) q (by rw [List.length_replicate]; omega)
      simp only [h2, madeCells]
      simp [hj, List.getD_eq_getElem?_getD, List.getElem?_replicate, show q < n by omega, ob0]
    · obtain ⟨q, rfl⟩ : ∃ q, j = 2 * q + 1 := ⟨j / 2, by omega⟩
      have h2 := obs_val (List.replicate n ob0) q (by rw [List.length_replicate]; omega)
      simp only [h2, madeCells]
      simp [hj, List.getD_eq_getElem?_getD, List.getElem?_replicate, show q < n by omega, ob0, Nat.add_mod]
  · rw [List.getElem?_eq_none (by simp [madeCells]; omega), List.getElem?_eq_none (by simp [hl]; omega)]
theorem make_obs (n : Nat) (hn : n ≤ 1000000) (W : World) :
    (Instr.makeSlice 25 (.int .i64 (n : Int)) (.int .i64 (n : Int))).run Try.prog W = .ok (.slice (some ⟨W.heap.size, 0, none⟩) n n) (W.alloc (.cells (obs (List.replicate n ob0)).toArray 77)) := by
  obtain ⟨i0, hi0, hz0, hz1, hz2⟩ := info_parts infoO
  have hr := run_make (P := Try.prog) W 25 77 i0 _ Try.underlying25 hi0 hz0 .i64 .i64 n n (by omega) (by omega) (by rw [hz2]; omega) (by omega)
  simp only [Int.toNat_natCast, hz1] at hr
  rw [hr]
  rw [show (Value.agg #[.int .i64 0, .string ByteArray.empty]).cells = #[.int .i64 0, .string ByteArray.empty] from rfl, made_obs]

/-- What is lent when k marks have been laid. -/
def lentO (os : List Ob) (k : Nat) : List Ob := os ++ (List.replicate k obM ++ List.replicate (3 - k) ob0)
theorem lentO_length (os : List Ob) (k : Nat) (h : k ≤ 3) : (lentO os k).length = os.length + 3 := by simp [lentO]; omega
theorem lentO_set (os : List Ob) (k : Nat) (h : k < 3) : (lentO os k).set (os.length + k) obM = lentO os (k + 1) := by
  unfold lentO
  match k, h with
  | 0, _ => simp [List.replicate]
  | 1, _ => simp [List.replicate]
  | 2, _ => simp [List.replicate]

theorem lentobjs_any (A : Option Addr) (n c : Nat) (os : List Ob) (w : World) (hl : OL w w.heap.size A n os) (hn : n ≤ 100000) :
    Calls Try.prog 14 #[.slice A n c] w fun e w' => e = .returned (.slice (some ⟨w.heap.size, 0, none⟩) n (n + 3)) ∧ WholeV w' w.heap.size 77 (obs (os ++ [obM, obM, obM])) ∧ Below w.heap.size w w' := by
  have hmk : ∀ W : World, (Instr.makeSlice 25 (.int .i64 (↑n + 3)) (.int .i64 (↑n + 3))).run Try.prog W = .ok (.slice (some ⟨W.heap.size, 0, none⟩) (n + 3) (n + 3)) (W.alloc (.cells (obs (List.replicate (n + 3) ob0)).toArray 77)) :=
    fun W => make_obs (n + 3) (by omega) W
  have hlen := hl.len
  obtain ⟨cs, hcs⟩ : ∃ cs, cs = obs os := ⟨_, rfl⟩
  obtain ⟨zs, hzs⟩ : ∃ zs, zs = obs (List.replicate (n + 3) ob0) := ⟨_, rfl⟩
  rw [← hzs] at hmk
  have hcl : cs.length = n * 2 := by rw [hcs, obs_length]; omega
  have hzl : zs.length = (n + 3) * 2 := by rw [hzs, obs_length, List.length_replicate]; omega
  have hsrc : 0 < cs.length → ∃ ad, A = some ad ∧ ∀ j v, cs[j]? = some v → (w.alloc (.cells zs.toArray 77)).cell? (ad.add j) = some v := by
    intro h0
    obtain ⟨ad, e, hb, hc⟩ := RowV.src hl (by omega)
    refine ⟨ad, e, fun j v hv => ?_⟩
    rw [hcs] at hv
    refine Eq.trans (World.cell?_alloc_lt w _ _ ?_) (hc j v hv)
    unfold Addr.add; split <;> exact hb
  have hnil : A = none → n = 0 := by
    intro h
    rcases Nat.eq_zero_or_pos n with h0 | h0
    · exact h0
    · obtain ⟨b, off, h2, _⟩ := hl.2 (by omega)
      rw [h] at h2; cases h2
  have HS := Lib.hid hsrc
  have HNI := Lib.hid hnil
  have HCL := Lib.hid hcl
  have HZL := Lib.hid hzl
  have HC := Lib.hid hcs
  have HZ := Lib.hid hzs
  have HLE := Lib.hid hlen
  have h1 : Hid (∀ u ∈ cs, u.oneCell' = true) := by rw [hcs]; exact obs_one os
  clear hl hlen hcs hzs hcl hzl hsrc hnil
  go_enter Try.func14, Try.ntmps14
  go_wp2_with (
      (with_reducible refine wpList_copy_wide (o := ⟨some 11, _, _, _, _, _⟩) rfl _ _ 25 25 rfl 77 2 Try.underlying25 (by kernel_rfl) w.heap.size (n + 3) (n + 3) A n c rfl rfl zs 77 (heap_alloc_new w _) cs HCL.out (by omega) HS.out HNI.out (by rw [HCL.out, HZL.out]; omega) h1.out w.heap.size w ((Below.refl _ _).alloc (Nat.le_refl _) _) (Nat.le_refl _) ?_)
      intro w2 hW2 hB2
      have HW : Hid (WholeV w2 w.heap.size 77 (obs (lentO os 0))) := by
        have h := hW2
        rw [HCL.out, HZ.out, HC.out, Nat.mul_comm n 2, ← obs_drop, ← obs_append] at h
        have e : List.drop n (List.replicate (n + 3) ob0) = List.replicate 3 ob0 := by
          rw [List.drop_replicate, show n + 3 - n = 3 by omega]
        rw [e] at h
        exact Lib.hid h
      have HB := Lib.hid hB2
      clear hW2 hB2)
  go_loopw [4] (fun i wr => ∃ k : Nat, k ≤ 3 ∧ i = .int .i64 ((n + k : Nat) : Int) ∧ Hid (WholeV wr w.heap.size 77 (obs (lentO os k))) ∧ Hid (Below w.heap.size w wr)) (fun i _ => n + 3 - (intOf i).toNat)
  case atStart => exact ⟨0, by omega, rfl, HW, HB⟩
  case round =>
    obtain ⟨k, hk, rfl, HWk, HBk⟩ := hrel
    by_cases hlt : k < 3
    · have hll : n + k < (lentO os k).length := by rw [lentO_length _ _ hk, HLE.out]; omega
      have hc1 := (HWk.out.cell (2 * (n + k))).trans (obs_id _ _ hll)
      have hc2 := (HWk.out.cell (2 * (n + k) + 1)).trans (obs_val _ _ hll)
      rw [Nat.mul_comm 2 (n + k)] at hc1 hc2
      have hf1 := HWk.out.frozen ((n + k) * 2)
      have hf2 := HWk.out.frozen ((n + k) * 2 + 1)
      clear hll
      go_wp2
      go_roundw
      case rel =>
        refine ⟨k + 1, by omega, by go_num, Lib.hid ?_, Lib.hid ((HBk.out.setCell (Nat.le_refl _) _).setCell (Nat.le_refl _) _)⟩
        have hq := (HWk.out.set ((n + k) * 2) (.int .i64 7)).set ((n + k) * 2 + 1) (.string ⟨#[109]⟩)
        have hs := lentO_set os k hlt
        rw [HLE.out] at hs
        rw [obs_set2] at hq
        rw [← hs]
        exact hq
      case measure => simp [intOf]; omega
    · go_wp2
      go_ret
      obtain rfl : k = 3 := by omega
      exact ⟨rfl, HWk.out, HBk.out⟩

theorem staysobjs_any (A : Option Addr) (n c g : Nat) (os : List Ob) (w : World) (hl : OL w w.heap.size A n os) (hw : WholeV w g 77 (obs (os ++ [obM, obM, obM]))) (hn : n ≤ 100000) :
    Calls Try.prog 21 #[.slice (some ⟨g, 0, none⟩) n (n + 3), .slice A n c] w (Quiet (.bool true) w) := by
  have HR := Lib.hid hl
  have HW := Lib.hid hw
  have HN := Lib.hid hl.len
  clear hl hw
  go_enter Try.func21, Try.ntmps21
  go_wp2
  go_loopw [6] (fun i wr => ∃ k d : Nat, k ≤ n + 3 ∧ i = .int .i64 (k : Int) ∧ wr = w.drewN d) (fun i _ => n + 3 - (intOf i).toNat)
  case atStart => exact ⟨0, 0, by omega, rfl, rfl⟩
  case round =>
    obtain ⟨k, d, hk, rfl, rfl⟩ := hrel
    by_cases hlt : k < n + 3
    · have hll : k < (os ++ [obM, obM, obM]).length := by rw [List.length_append, HN.out]; exact hlt
      have hc1 := (HW.out.cell (2 * k)).trans (obs_id _ _ hll)
      have hc2 := (HW.out.cell (2 * k + 1)).trans (obs_val _ _ hll)
      rw [Nat.mul_comm 2 k] at hc1 hc2
      clear hll
      by_cases hlt2 : k < n
      · obtain ⟨b, off, rfl, hb, hd1, hd2⟩ := HR.out.at_ k hlt2
        have he : (os ++ [obM, obM, obM]).getD k ob0 = os.getD k ob0 := by
          simp [List.getD_eq_getElem?_getD, List.getElem?_append_left (show k < os.length by rw [HN.out]; exact hlt2)]
        rw [he] at hc1 hc2
        obtain ⟨x, hx⟩ : ∃ x, (os.getD k ob0).1 = x := ⟨_, rfl⟩
        obtain ⟨S, hS⟩ : ∃ S, (os.getD k ob0).2 = S := ⟨_, rfl⟩
        rw [hx] at hc1 hd1
        rw [hS] at hc2 hd2
        have hi1 : (k : Int) < (n : Int) := by omega
        have hi3 : (k : Int) < (n : Int) + 3 := by omega
        have hd : decide (n ≤ k) = false := by simp; omega
        clear hx hS he
        go_wp2
        go_quiet (fail)
        go_wp2
        go_roundw
        case rel => exact ⟨k + 1, _, by omega, by go_num, rfl⟩
        case measure => simp [intOf]; omega
      · have he : (os ++ [obM, obM, obM]).getD k ob0 = obM := by
          obtain ⟨m, rfl⟩ : ∃ m, k = n + m := ⟨k - n, by omega⟩
          have hm : m < 3 := by omega
          rw [List.getD_eq_getElem?_getD, List.getElem?_append_right (by rw [HN.out]; omega), HN.out, Nat.add_sub_cancel_left]
          match m, hm with
          | 0, _ => rfl
          | 1, _ => rfl
          | 2, _ => rfl
        rw [he] at hc1 hc2
        have hd1 : w.cell? ⟨g, k * 2, none⟩ = some (.int .i64 7) := hc1
        have hd2 : w.cell? ⟨g, k * 2 + 1, none⟩ = some (.string ⟨#[109]⟩) := hc2
        have hi3 : (k : Int) < (n : Int) + 3 := by omega
        have hd : decide (k < n) = false := by simp; omega
        have hd' : decide (n ≤ k) = true := by simp; omega
        clear he hc1 hc2
        go_wp2
        go_quiet (fail)
        go_wp2
        go_roundw
        case rel => exact ⟨k + 1, _, by omega, by go_num, rfl⟩
        case measure => simp [intOf]; omega
    · go_wp2
      go_ret
      exact ⟨rfl, _, rfl⟩

/-- few of stage 7: not too many, none too long. -/
def fewP (os : List Ob) : Prop := os.length ≤ 60 ∧ ∀ k, k < os.length → (os.getD k ob0).2.size ≤ 300
instance (os : List Ob) : Decidable (fewP os) := by unfold fewP; infer_instance

end Go.Proofs.Ytcmnhpogepahgaa

/- Lists of spans that are lent, and whether they stay; are two lists alike. No statement is proved here. -/
import Derived.Test.YtlnmdepaobocnaaWideAt
namespace Go.Proofs.Ytlnmdepaobocnaa
open Go.ChangeShapes Go.WideShapes Go.ChangeAt Go.RowKit
set_option linter.unusedVariables false
set_option linter.unusedSimpArgs false

/-- The mark behind what is lent. -/
def spM : Sp := (7, 7, 7)
theorem sps_set3 (os : List Sp) (k : Nat) (x y z : Int) : (((sps os).set (k * 3) (.int .i64 x)).set (k * 3 + 1) (.int .i64 y)).set (k * 3 + 2) (.int .i64 z) = sps (os.set k (x, y, z)) := by
  induction os generalizing k with
  | nil => simp [sps]
  | cons o os ih =>
    cases k with
    | zero => simp [sps_cons]
    | succ k =>
      rw [sps_cons, show (k + 1) * 3 = (k * 3) + 1 + 1 + 1 by omega, show k * 3 + 1 + 1 + 1 + 1 = (k * 3 + 1) + 1 + 1 + 1 by omega, show k * 3 + 1 + 1 + 1 + 2 = (k * 3 + 2) + 1 + 1 + 1 by omega]
      simp only [List.set_cons_succ, ih, sps_cons]

/-- What is lent when k marks have been laid. -/
def lentS (os : List Sp) (k : Nat) : List Sp := os ++ (List.replicate k spM ++ List.replicate (3 - k) sp0)
theorem lentS_length (os : List Sp) (k : Nat) (h : k ≤ 3) : (lentS os k).length = os.length + 3 := by simp [lentS]; omega
theorem lentS_set (os : List Sp) (k : Nat) (h : k < 3) : (lentS os k).set (os.length + k) spM = lentS os (k + 1) := by
  unfold lentS
  match k, h with
  | 0, _ => simp [List.replicate]
  | 1, _ => simp [List.replicate]
  | 2, _ => simp [List.replicate]

theorem lentspans_any (A : Option Addr) (n c : Nat) (os : List Sp) (w : World) (hl : SL w A n os) (hn : n ≤ 100000) :
    Calls Try.prog 10 #[.slice A n c] w fun e w' => e = .returned (.slice (some ⟨w.heap.size, 0, none⟩) n (n + 3)) ∧ WholeV w' w.heap.size 23 (sps (os ++ [spM, spM, spM])) ∧ Below w.heap.size w w' := by
  have hmk : ∀ W : World, (Instr.makeSlice 24 (.int .i64 (↑n + 3)) (.int .i64 (↑n + 3))).run Try.prog W = .ok (.slice (some ⟨W.heap.size, 0, none⟩) (n + 3) (n + 3)) (W.alloc (.cells (sps (List.replicate (n + 3) sp0)).toArray 23)) :=
    fun W => make_sps (n + 3) (n + 3) (Nat.le_refl _) (by omega) W
  have hlen := hl.len
  obtain ⟨cs, hcs⟩ : ∃ cs, cs = sps os := ⟨_, rfl⟩
  obtain ⟨zs, hzs⟩ : ∃ zs, zs = sps (List.replicate (n + 3) sp0) := ⟨_, rfl⟩
  rw [← hzs] at hmk
  have hcl : cs.length = n * 3 := by rw [hcs, sps_length]; omega
  have hzl : zs.length = (n + 3) * 3 := by rw [hzs, sps_length, List.length_replicate]; omega
  have hsrc : 0 < cs.length → ∃ ad, A = some ad ∧ ∀ j v, cs[j]? = some v → (w.alloc (.cells zs.toArray 23)).cell? (ad.add j) = some v := by
    intro h0
    obtain ⟨ad, e, hb, hc⟩ := RowV.src hl (by omega)
    refine ⟨ad, e, fun j v hv => ?_⟩
    rw [hcs] at hv
    refine Eq.trans (World.cell?_alloc_lt w _ _ ?_) (hc j v hv)
    unfold Addr.add; split <;> exact hb
  have hnil : A = none → n = 0 := by
    intro h
    rcases Nat.eq_zero_or_pos n with h0 | h0
    · exact h0
    · obtain ⟨b, off, h2, _⟩ := hl.2 (by omega)
      rw [h] at h2; cases h2
  have HS := Lib.hid hsrc
  have HNI := Lib.hid hnil
  have HCL := Lib.hid hcl
  have HZL := Lib.hid hzl
  have HC := Lib.hid hcs
  have HZ := Lib.hid hzs
  have HLE := Lib.hid hlen
  have h1 : Hid (∀ u ∈ cs, u.oneCell' = true) := by rw [hcs]; exact sps_one os
  clear hl hlen hcs hzs hcl hzl hsrc hnil
  go_enter Try.func10, Try.ntmps10
  go_wp2_with (
      (with_reducible refine wpList_copy_wide (o := ⟨some 11, _, _, _, _, _⟩) rfl _ _ 24 24 rfl 23 3 Try.underlying24 (by kernel_rfl) w.heap.size (n + 3) (n + 3) A n c rfl rfl zs 23 (heap_alloc_new w _) cs HCL.out (by omega) HS.out HNI.out (by rw [HCL.out, HZL.out]; omega) h1.out w.heap.size w ((Below.refl _ _).alloc (Nat.le_refl _) _) (Nat.le_refl _) ?_)
      intro w2 hW2 hB2
      have HW : Hid (WholeV w2 w.heap.size 23 (sps (lentS os 0))) := by
        have h := hW2
        rw [HCL.out, HZ.out, HC.out, Nat.mul_comm n 3, ← sps_drop, ← sps_append] at h
        have e : List.drop n (List.replicate (n + 3) sp0) = List.replicate 3 sp0 := by
          rw [List.drop_replicate, show n + 3 - n = 3 by omega]
        rw [e] at h
        exact Lib.hid h
      have HB := Lib.hid hB2
      clear hW2 hB2)
  go_loopw [4] (fun i wr => ∃ k : Nat, k ≤ 3 ∧ i = .int .i64 ((n + k : Nat) : Int) ∧ Hid (WholeV wr w.heap.size 23 (sps (lentS os k))) ∧ Hid (Below w.heap.size w wr)) (fun i _ => n + 3 - (intOf i).toNat)
  case atStart => exact ⟨0, by omega, rfl, HW, HB⟩
  case round =>
    obtain ⟨k, hk, rfl, HWk, HBk⟩ := hrel
    by_cases hlt : k < 3
    · have hll : n + k < (lentS os k).length := by rw [lentS_length _ _ hk, HLE.out]; omega
      obtain ⟨s1, s2, s3⟩ := sps_at _ _ hll
      have hc1 := (HWk.out.cell (3 * (n + k))).trans s1
      have hc2 := (HWk.out.cell (3 * (n + k) + 1)).trans s2
      have hc3 := (HWk.out.cell (3 * (n + k) + 2)).trans s3
      rw [Nat.mul_comm 3 (n + k)] at hc1 hc2 hc3
      have hf1 := HWk.out.frozen ((n + k) * 3)
      have hf2 := HWk.out.frozen ((n + k) * 3 + 1)
      have hf3 := HWk.out.frozen ((n + k) * 3 + 2)
      clear s1 s2 s3
      clear hll
      go_wp2
      go_roundw
      case rel =>
        refine ⟨k + 1, by omega, by go_num, Lib.hid ?_, Lib.hid (((HBk.out.setCell (Nat.le_refl _) _).setCell (Nat.le_refl _) _).setCell (Nat.le_refl _) _)⟩
        have hq := ((HWk.out.set ((n + k) * 3) (.int .i64 7)).set ((n + k) * 3 + 1) (.int .i64 7)).set ((n + k) * 3 + 2) (.int .i64 7)
        have hs := lentS_set os k hlt
        rw [HLE.out] at hs
        rw [sps_set3] at hq
        rw [← hs]
        exact hq
      case measure => simp [intOf]; omega
    · go_wp2
      go_ret
      obtain rfl : k = 3 := by omega
      exact ⟨rfl, HWk.out, HBk.out⟩

theorem staysspans_any (A : Option Addr) (n c g : Nat) (os : List Sp) (w : World) (hl : SL w A n os) (hw : WholeV w g 23 (sps (os ++ [spM, spM, spM]))) (hn : n ≤ 100000) :
    Calls Try.prog 15 #[.slice (some ⟨g, 0, none⟩) n (n + 3), .slice A n c] w (Quiet (.bool true) w) := by
  have HR := Lib.hid hl
  have HW := Lib.hid hw
  have HN := Lib.hid hl.len
  clear hl hw
  go_enter Try.func15, Try.ntmps15
  go_wp2
  go_loopw [6] (fun i wr => ∃ k d : Nat, k ≤ n + 3 ∧ i = .int .i64 (k : Int) ∧ wr = w.drewN d) (fun i _ => n + 3 - (intOf i).toNat)
  case atStart => exact ⟨0, 0, by omega, rfl, rfl⟩
  case round =>
    obtain ⟨k, d, hk, rfl, rfl⟩ := hrel
    by_cases hlt : k < n + 3
    · have hll : k < (os ++ [spM, spM, spM]).length := by rw [List.length_append, HN.out]; exact hlt
      obtain ⟨s1, s2, s3⟩ := sps_at _ _ hll
      have hc1 := (HW.out.cell (3 * k)).trans s1
      have hc2 := (HW.out.cell (3 * k + 1)).trans s2
      have hc3 := (HW.out.cell (3 * k + 2)).trans s3
      rw [Nat.mul_comm 3 k] at hc1 hc2 hc3
      clear s1 s2 s3
      clear hll
      by_cases hlt2 : k < n
      · obtain ⟨b, off, rfl, hb, hd1, hd2, hd3⟩ := HR.out.at_ k hlt2
        have he : (os ++ [spM, spM, spM]).getD k sp0 = os.getD k sp0 := by
          simp [List.getD_eq_getElem?_getD, List.getElem?_append_left (show k < os.length by rw [HN.out]; exact hlt2)]
        rw [he] at hc1 hc2 hc3
        obtain ⟨⟨x, y, z⟩, hx⟩ : ∃ s, os.getD k sp0 = s := ⟨_, rfl⟩
        rw [hx] at hc1 hd1 hc2 hd2 hc3 hd3
        dsimp only at hc1 hd1 hc2 hd2 hc3 hd3
        have hi1 : (k : Int) < (n : Int) := by omega
        have hi3 : (k : Int) < (n : Int) + 3 := by omega
        have hd : decide (n ≤ k) = false := by simp; omega
        clear hx he
        go_wp2
        go_quiet (fail)
        go_wp2
        go_roundw
        case rel => exact ⟨k + 1, _, by omega, by go_num, rfl⟩
        case measure => simp [intOf]; omega
      · have he : (os ++ [spM, spM, spM]).getD k sp0 = spM := by
          obtain ⟨m, rfl⟩ : ∃ m, k = n + m := ⟨k - n, by omega⟩
          have hm : m < 3 := by omega
          rw [List.getD_eq_getElem?_getD, List.getElem?_append_right (by rw [HN.out]; omega), HN.out, Nat.add_sub_cancel_left]
          match m, hm with
          | 0, _ => rfl
          | 1, _ => rfl
          | 2, _ => rfl
        rw [he] at hc1 hc2 hc3
        have hd1 : w.cell? ⟨g, k * 3, none⟩ = some (.int .i64 7) := hc1
        have hd2 : w.cell? ⟨g, k * 3 + 1, none⟩ = some (.int .i64 7) := hc2
        have hd3 : w.cell? ⟨g, k * 3 + 2, none⟩ = some (.int .i64 7) := hc3
        have hi3 : (k : Int) < (n : Int) + 3 := by omega
        have hd : decide (k < n) = false := by simp; omega
        have hd' : decide (n ≤ k) = true := by simp; omega
        clear he hc1 hc2 hc3
        go_wp2
        go_quiet (fail)
        go_wp2
        go_roundw
        case rel => exact ⟨k + 1, _, by omega, by go_num, rfl⟩
        case measure => simp [intOf]; omega
    · go_wp2
      go_ret
      exact ⟨rfl, _, rfl⟩

set_option maxRecDepth 100000 in
theorem samespans_any (A B : Option Addr) (n c d : Nat) (l : List Sp) (w : World) (ha : SL w A n l) (hb : SL w B n l) (hn : n ≤ 1000000) :
    Calls Try.prog 22 #[.slice A n c, .slice B n d] w (Quiet (.bool true) w) := by
  have HA := Lib.hid ha
  have HB := Lib.hid hb
  clear ha hb
  go_enter Try.func22, Try.ntmps22
  go_wp2
  go_loopw [5] (fun i wr => ∃ k d : Nat, k ≤ n ∧ i = .int .i64 (k : Int) ∧ wr = w.drewN d) (fun i _ => n - (intOf i).toNat)
  case atStart => exact ⟨0, 0, by omega, rfl, rfl⟩
  case round =>
    obtain ⟨k, d, hk, rfl, rfl⟩ := hrel
    by_cases hlt : k < n
    · have hlt' : (k : Int) < (n : Int) := by omega
      have hk0 : (0 : Int) ≤ (k : Int) := by omega
      obtain ⟨b0, off, rfl, hbs, c0, c1, c2⟩ := HA.out.at_ k hlt
      obtain ⟨b1, off1, rfl, hbs1, d0, d1, d2⟩ := HB.out.at_ k hlt
      obtain ⟨⟨x, y, z⟩, hx⟩ : ∃ s, l.getD k sp0 = s := ⟨_, rfl⟩
      rw [hx] at c0 c1 c2 d0 d1 d2
      dsimp only at c0 c1 c2 d0 d1 d2
      clear hx
      go_wp2
      go_quiet (fail)
      go_wp2
      go_roundw
      case rel => exact ⟨k + 1, _, by omega, by go_num, rfl⟩
      case measure => simp [intOf]; omega
    · have hge : ¬ (k : Int) < (n : Int) := by omega
      go_wp2
      go_ret
      exact ⟨rfl, _, rfl⟩

end Go.Proofs.Ytlnmdepaobocnaa

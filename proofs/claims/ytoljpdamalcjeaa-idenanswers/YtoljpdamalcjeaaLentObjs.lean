/- Objects that are lent, and whether they stay: LentObjects, StaysObjects; few of stage 7. -/
import Derived.Test.YtoljpdamalcjeaaLobj
import Derived.Test.YtoljpdamalcjeaaWide
namespace Go.Proofs.Ytoljpdamalcjeaa
open Go.ChangeShapes Go.WideShapes Go.ChangeAt Go.RowKit
set_option linter.unusedVariables false
set_option linter.unusedSimpArgs false

/-- The mark behind what is lent. -/
def obM : Ob := (7, ⟨#[109]⟩)
theorem obs_set2 (os : List Ob) (k : Nat) (x : Int) (s : ByteArray) : ((obs os).set (k * 2) (.int .i64 x)).set (k * 2 + 1) (.string s) = obs (os.set k (x, s)) := by
  induction os generalizing k with
  | nil => simp [obs]
  | cons o os ih =>
    cases k with
    | zero => simp [obs_cons]
    | succ k =>
      rw [obs_cons, show (k + 1) * 2 = (k * 2) + 1 + 1 by omega, List.set_cons_succ, List.set_cons_succ, List.set_cons_succ, List.set_cons_succ, ih, List.set_cons_succ, obs_cons]
theorem made_obs (n : Nat) : madeCells #[.int .i64 0, .string ByteArray.empty] (n * 2) = (obs (List.replicate n ob0)).toArray := by
  apply Array.toList_inj.1
  apply List.ext_getElem?
  intro j
  have hl : (obs (List.replicate n ob0)).length = 2 * n := by rw [obs_length, List.length_replicate]
  by_cases hj : j < n * 2
  · rcases Nat.mod_two_eq_zero_or_one j with h | h
    · obtain ⟨q, rfl⟩ : ∃ q, j = 2 * q := ⟨j / 2, by omega⟩
      have h2 := obs_id (List.replicate n ob0) q (by rw [List.length_replicate]; omega)
      simp only [h2, madeCells]
      simp [hj, List.getD_eq_getElem?_getD, List.getElem?_replicate, show q < n by omega, ob0]
    · obtain ⟨q, rfl⟩ : ∃ q, j = 2 * q + 1 := ⟨j / 2, by omega⟩
      have h2 := obs_val (List.replicate n ob0) q (by rw [List.length_replicate]; omega)
      simp only [h2, madeCells]
      simp [hj, List.getD_eq_getElem?_getD, List.getElem?_replicate, show q < n by omega, ob0, Nat.add_mod]
  · rw [List.getElem?_eq_none (by simp [madeCells]; omega), List.getElem?_eq_none (by simp [hl]; omega)]
theorem make_obs (n : Nat) (hn : n ≤ 1000000) (W : World) :
    (Instr.makeSlice 51 (.int .i64 (n : Int)) (.int .i64 (n : Int))).run Try.prog W = .ok (.slice (some ⟨W.heap.size, 0, none⟩) n n) (W.alloc (.cells (obs (List.replicate n ob0)).toArray 98)) := by
  obtain ⟨i0, hi0, hz0, hz1, hz2⟩ := info_parts infoO
  have hr := run_make (P := Try.prog) W 51 98 i0 _ Try.underlying51 hi0 hz0 .i64 .i64 n n (by omega) (by omega) (by rw [hz2]; omega) (by omega)
  simp only [Int.toNat_natCast, hz1] at hr
  rw [hr]
  rw [show (Value.agg #[.int .i64 0, .string ByteArray.empty]).cells = #[.int .i64 0, .string ByteArray.empty] from rfl, made_obs]

/-- What is lent when k marks have been laid. -/
def lentO (os : List Ob) (k : Nat) : List Ob := os ++ (List.replicate k obM ++ List.replicate (3 - k) ob0)
theorem lentO_length (os : List Ob) (k : Nat) (h : k ≤ 3) : (lentO os k).length = os.length + 3 := by simp [lentO]; omega
theorem lentO_set (os : List Ob) (k : Nat) (h : k < 3) : (lentO os k).set (os.length + k) obM = lentO os (k + 1) := by
  unfold lentO
  match k, h with
  | 0, _ => simp [List.replicate]
  | 1, _ => simp [List.replicate]
  | 2, _ => simp [List.replicate]

theorem lentobjs_any (A : Option Addr) (n c : Nat) (os : List Ob) (w : World) (hl : OL w w.heap.size A n os) (hn : n ≤ 100000) :
    Calls Try.prog 27 #[.slice A n c] w fun e w' => e = .returned (.slice (some ⟨w.heap.size, 0, none⟩) n (n + 3)) ∧ WholeV w' w.heap.size 98 (obs (os ++ [obM, obM, obM])) ∧ Below w.heap.size w w' := by
  have hmk : ∀ W : World, (Instr.makeSlice 51 (.int .i64 (↑n + 3)) (.int .i64 (↑n + 3))).run Try.prog W = .ok (.slice (some ⟨W.heap.size, 0, none⟩) (n + 3) (n + 3)) (W.alloc (.cells (obs (List.replicate (n + 3) ob0)).toArray 98)) :=
    fun W => make_obs (n + 3) (by omega) W
  have hlen := hl.len
  obtain ⟨cs, hcs⟩ : ∃ cs, cs = obs os := ⟨_, rfl⟩
  obtain ⟨zs, hzs⟩ : ∃ zs, zs = obs (List.replicate (n + 3) ob0) := ⟨_, rfl⟩
  rw [← hzs] at hmk
  have hcl : cs.length = n * 2 := by rw [hcs, obs_length]; omega
  have hzl : zs.length = (n + 3) * 2 := by rw [hzs, obs_length, List.length_replicate]; omega
  have hsrc : 0 < cs.length → ∃ ad, A = some ad ∧ ∀ j v, cs[j]? = some v → (w.alloc (.cells zs.toArray 98)).cell? (ad.add j) = some v := by
    intro h0
    obtain ⟨ad, e, hb, hc⟩ := RowV.src hl (by omega)
    refine ⟨ad, e, fun j v hv => ?_⟩
    rw [hcs] at hv
    refine Eq.trans (World.cell?_alloc_lt w _ _ ?_) (hc j v hv)
    unfold Addr.add; split <;> exact hb
  have hnil : A = none → n = 0 := by
    intro h
    rcases Nat.eq_zero_or_pos n with h0 | h0
    · exact h0
    · obtain ⟨b, off, h2, _⟩ := hl.2 (by omega)
      rw [h] at h2; cases h2
  have HS := Lib.hid hsrc
  have HNI := Lib.hid hnil
  have HCL := Lib.hid hcl
  have HZL := Lib.hid hzl
  have HC := Lib.hid hcs
  have HZ := Lib.hid hzs
  have HLE := Lib.hid hlen
  have h1 : Hid (∀ u ∈ cs, u.oneCell' = true) := by rw [hcs]; exact obs_one os
  clear hl hlen hcs hzs hcl hzl hsrc hnil
  go_enter Try.func27, Try.ntmps27
  go_wp2_with (
      (with_reducible refine wpList_copy_wide (o := ⟨some 11, _, _, _, _, _⟩) rfl _ _ 51 51 rfl 98 2 Try.underlying51 (by kernel_rfl) w.heap.size (n + 3) (n + 3) A n c rfl rfl zs 98 (heap_alloc_new w _) cs HCL.out (by omega) HS.out HNI.out (by rw [HCL.out, HZL.out]; omega) h1.out w.heap.size w ((Below.refl _ _).alloc (Nat.le_refl _) _) (Nat.le_refl _) ?_)
      intro w2 hW2 hB2
      have HW : Hid (WholeV w2 w.heap.size 98 (obs (lentO os 0))) := by
        have h := hW2
        rw [HCL.out, HZ.out, HC.out, Nat.mul_comm n 2, ← obs_drop, ← obs_append] at h
        have e : List.drop n (List.replicate (n + 3) ob0) = List.replicate 3 ob0 := by
          rw [List.drop_replicate, show n + 3 - n = 3 by omega]
        rw [e] at h
        exact Lib.hid h
      have HB := Lib.hid hB2
      clear hW2 hB2)
  go_loopw [4] (fun i wr => ∃ k : Nat, k ≤ 3 ∧ i = .int .i64 ((n + k : Nat) : Int) ∧ Hid (WholeV wr w.heap.size 98 (obs (lentO os k))) ∧ Hid (Below w.heap.size w wr)) (fun i _ => n + 3 - (intOf i).toNat)
  case atStart => exact ⟨0, by omega, rfl, HW, HB⟩
  case round =>
    obtain ⟨k, hk, rfl, HWk, HBk⟩ := hrel
    by_cases hlt : k < 3
    · have hll : n + k < (lentO os k).length := by rw [lentO_length _ _ hk, HLE.out]; omega
      have hc1 := (HWk.out.cell (2 * (n + k))).trans (obs_id _ _ hll)
      have hc2 := (HWk.out.cell (2 * (n + k) + 1)).trans (obs_val _ _ hll)
      rw [Nat.mul_comm 2 (n + k)] at hc1 hc2
      have hf1 := HWk.out.frozen ((n + k) * 2)
      have hf2 := HWk.out.frozen ((n + k) * 2 + 1)
      clear hll
      go_wp2
      go_roundw
      case rel =>
        refine ⟨k + 1, by omega, by go_num, Lib.hid ?_, Lib.hid ((HBk.out.setCell (Nat.le_refl _) _).setCell (Nat.le_refl _) _)⟩
        have hq := (HWk.out.set ((n + k) * 2) (.int .i64 7)).set ((n + k) * 2 + 1) (.string ⟨#[109]⟩)
        have hs := lentO_set os k hlt
        rw [HLE.out] at hs
        rw [obs_set2] at hq
        rw [← hs]
        exact hq
      case measure => simp [intOf]; omega
    · go_wp2
      go_ret
      obtain rfl : k = 3 := by omega
      exact ⟨rfl, HWk.out, HBk.out⟩

theorem staysobjs_any (A : Option Addr) (n c g : Nat) (os : List Ob) (w : World) (hl : OL w w.heap.size A n os) (hw : WholeV w g 98 (obs (os ++ [obM, obM, obM]))) (hn : n ≤ 100000) :
    Calls Try.prog 34 #[.slice (some ⟨g, 0, none⟩) n (n + 3), .slice A n c] w (Quiet (.bool true) w) := by
  have HR := Lib.hid hl
  have HW := Lib.hid hw
  have HN := Lib.hid hl.len
  clear hl hw
  go_enter Try.func34, Try.ntmps34
  go_wp2
  go_loopw [6] (fun i wr => ∃ k d : Nat, k ≤ n + 3 ∧ i = .int .i64 (k : Int) ∧ wr = w.drewN d) (fun i _ => n + 3 - (intOf i).toNat)
  case atStart => exact ⟨0, 0, by omega, rfl, rfl⟩
  case round =>
    obtain ⟨k, d, hk, rfl, rfl⟩ := hrel
    by_cases hlt : k < n + 3
    · have hll : k < (os ++ [obM, obM, obM]).length := by rw [List.length_append, HN.out]; exact hlt
      have hc1 := (HW.out.cell (2 * k)).trans (obs_id _ _ hll)
      have hc2 := (HW.out.cell (2 * k + 1)).trans (obs_val _ _ hll)
      rw [Nat.mul_comm 2 k] at hc1 hc2
      clear hll
      by_cases hlt2 : k < n
      · obtain ⟨b, off, rfl, hb, hd1, hd2⟩ := HR.out.at_ k hlt2
        have he : (os ++ [obM, obM, obM]).getD k ob0 = os.getD k ob0 := by
          simp [List.getD_eq_getElem?_getD, List.getElem?_append_left (show k < os.length by rw [HN.out]; exact hlt2)]
        rw [he] at hc1 hc2
        obtain ⟨x, hx⟩ : ∃ x, (os.getD k ob0).1 = x := ⟨_, rfl⟩
        obtain ⟨S, hS⟩ : ∃ S, (os.getD k ob0).2 = S := ⟨_, rfl⟩
        rw [hx] at hc1 hd1
        rw [hS] at hc2 hd2
        have hi1 : (k : Int) < (n : Int) := by omega
        have hi3 : (k : Int) < (n : Int) + 3 := by omega
        have hd : decide (n ≤ k) = false := by simp; omega
        clear hx hS he
        go_wp2
        go_quiet (fail)
        go_wp2
        go_roundw
        case rel => exact ⟨k + 1, _, by omega, by go_num, rfl⟩
        case measure => simp [intOf]; omega
      · have he : (os ++ [obM, obM, obM]).getD k ob0 = obM := by
          obtain ⟨m, rfl⟩ : ∃ m, k = n + m := ⟨k - n, by omega⟩
          have hm : m < 3 := by omega
          rw [List.getD_eq_getElem?_getD, List.getElem?_append_right (by rw [HN.out]; omega), HN.out, Nat.add_sub_cancel_left]
          match m, hm with
          | 0, _ => rfl
          | 1, _ => rfl
          | 2, _ => rfl
        rw [he] at hc1 hc2
        have hd1 : w.cell? ⟨g, k * 2, none⟩ = some (.int .i64 7) := hc1
        have hd2 : w.cell? ⟨g, k * 2 + 1, none⟩ = some (.string ⟨#[109]⟩) := hc2
        have hi3 : (k : Int) < (n : Int) + 3 := by omega
        have hd : decide (k < n) = false := by simp; omega
        have hd' : decide (n ≤ k) = true := by simp; omega
        clear he hc1 hc2
        go_wp2
        go_quiet (fail)
        go_wp2
        go_roundw
        case rel => exact ⟨k + 1, _, by omega, by go_num, rfl⟩
        case measure => simp [intOf]; omega
    · go_wp2
      go_ret
      exact ⟨rfl, _, rfl⟩

/-- few of stage 7: not too many, none too long. -/
def fewP (os : List Ob) : Prop := os.length ≤ 60 ∧ ∀ k, k < os.length → (os.getD k ob0).2.size ≤ 300
instance (os : List Ob) : Decidable (fewP os) := by unfold fewP; infer_instance
end Go.Proofs.Ytoljpdamalcjeaa

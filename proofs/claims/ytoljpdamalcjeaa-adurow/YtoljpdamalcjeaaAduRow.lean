/- Proved: for every slice of ints and every int, busbarlaw8.AduRow returns true, and its argument reads as before. Conditions: none. -/
import Derived.Test.YtoljpdamalcjeaaAwake8
import Derived.Test.YtoljpdamalcjeaaPduIs
import Derived.Test.YtoljpdamalcjeaaWithin
import Derived.ChangeMaps
import Derived.Deep.RegionHeld3
namespace Go.Proofs.Ytoljpdamalcjeaa.aduRow
open Go.ChangeShapes Go.WideShapes Go.ChangeAt Go.RowKit
open Go.ChangeMaps (open_string shut_string)
set_option linter.unusedVariables false
set_option linter.unusedSimpArgs false


/-- Frames i, i + 1, .., c of them. -/
def cat (fr : Nat → List Int) : Nat → Nat → List Int
  | _, 0 => []
  | i, c + 1 => fr i ++ cat fr (i + 1) c
theorem cat_snoc (fr : Nat → List Int) : ∀ (c i : Nat), cat fr i (c + 1) = cat fr i c ++ fr (i + c) := by
  intro c
  induction c with
  | zero => intro i; simp [cat]
  | succ c ih =>
    intro i
    show fr i ++ cat fr (i + 1) (c + 1) = (fr i ++ cat fr (i + 1) c) ++ fr (i + (c + 1))
    rw [ih (i + 1), List.append_assoc, show i + 1 + c = i + (c + 1) by omega]
theorem cat_le (fr : Nat → List Int) (h : ∀ i, (fr i).length ≤ 259) : ∀ (c i : Nat), (cat fr i c).length ≤ 259 * c := by
  intro c
  induction c with
  | zero => intro i; simp [cat]
  | succ c ih =>
    intro i
    show (fr i ++ cat fr (i + 1) c).length ≤ _
    rw [List.length_append]
    have := ih (i + 1)
    have := h i
    omega
theorem cat_bytes (fr : Nat → List Int) (m : Nat) (h : ∀ i, i < m → Bytes8 (fr i)) : ∀ (c i : Nat), i + c ≤ m → Bytes8 (cat fr i c) := by
  intro c
  induction c with
  | zero => intro i hi x hx; simp [cat] at hx
  | succ c ih =>
    intro i hi x hx
    rcases List.mem_append.1 (show x ∈ fr i ++ cat fr (i + 1) c from hx) with hx | hx
    · exact h i (by omega) x hx
    · exact ih (i + 1) (by omega) x hx
/-- What stands behind a front of a row. -/
theorem row_back {k : IntKind} {w : World} {B b off q r : Nat} {xs ys : List Int} (h : Row k w B (some ⟨b, off, none⟩) (q + r) (xs ++ ys)) (hx : xs.length = q) : Row k w B (some ⟨b, off + q, none⟩) r ys := by
  have hl := h.1
  rw [List.length_append] at hl
  refine ⟨by omega, fun h0 => ?_⟩
  obtain ⟨b', off', e, hb, hc⟩ := h.2 (by omega)
  injection e with e
  injection e with e1 e2
  subst e1 e2
  refine ⟨b, off + q, rfl, hb, fun j hj => ?_⟩
  rw [show off + q + j = off + (q + j) by omega, hc (q + j) (by omega)]
  simp only [List.getD_eq_getElem?_getD]
  rw [List.getElem?_append_right (by omega), show q + j - xs.length = j by omega]

/-- The frame of one request. -/
def frOf (f : Int → List Int) (ks : List Int) (t0 : Int) (i : Nat) : List Int := headOf (t0 + i) (1 + (f (ks.getD i 0)).length) i ++ f (ks.getD i 0)

theorem own_cap8 {w : World} {base : Nat} {e : TypeId} {A : Option Addr} {n c : Nat} {xs : List Value} (h : w.ownsRow base e 1 (.slice A n c) n xs) : n ≤ c := by
  rcases h.2 with ⟨h, h0⟩ | ⟨_, cap, _, h, _, _, h7, _⟩
  · omega
  · injection h with _ _ h3; omega

set_option maxRecDepth 100000 in
set_option maxHeartbeats 8000000 in
theorem walk_few (A : Option Addr) (n c : Nat) (ks : List Int) (tr t0 : Int) (f : Int → List Int) (w : World) (hr : Row .i64 w w.heap.size A n ks) (hw : ∀ k ∈ ks, -9223372036854775808 ≤ k ∧ k ≤ 9223372036854775807) (ht : tr % 60000 = t0) (p0 : -9223372036854775808 ≤ tr) (p1 : tr ≤ 9223372036854775807) (hnn : n ≤ 9223372036854775807) (hM : n ≤ 12)
    (hf : ∀ z, -9223372036854775808 ≤ z → z ≤ 9223372036854775807 → PduIs z tr (f z)) :
    Calls Try.prog 5 #[.slice A n c, .int .i64 tr] w fun e w' => e = .returned (.bool true) ∧ Below w.heap.size w w' := by
  have t00 : 0 ≤ t0 := by omega
  have t01 : t0 < 60000 := by omega
  have CT := Lib.hid (fun W => within_any tr 60000 W p0 p1 (by omega) (by omega))
  rw [ht] at CT
  have hin : ∀ i, i < n → -9223372036854775808 ≤ ks.getD i 0 ∧ ks.getD i 0 ≤ 9223372036854775807 := fun i hi => by
    have hl := hr.1
    rw [List.getD_eq_getElem?_getD, List.getElem?_eq_getElem (by omega)]
    exact hw _ (List.getElem_mem _)
  have HP : Hid (∀ i, i < n → PduIs (ks.getD i 0) tr (f (ks.getD i 0))) := fun i hi => hf _ (hin i hi).1 (hin i hi).2
  have HFB : Hid (∀ i, i < n → Bytes8 (frOf f ks t0 i) ∧ (frOf f ks t0 i).length ≤ 259) := by
    intro i hi
    obtain ⟨q1, q2, q3, _⟩ := HP.out i (by omega)
    refine ⟨frame_bytes _ _ _ _ (by unfold hFits; omega) q1, ?_⟩
    unfold frOf
    rw [List.length_append]
    show 7 + _ ≤ _
    omega
  obtain ⟨fr, hfr⟩ : ∃ fr : Nat → List Int, (fun i => if i < n then frOf f ks t0 i else []) = fr := ⟨_, rfl⟩
  have HFR : Hid (∀ i, i < n → fr i = frOf f ks t0 i) := fun i hi => by rw [← hfr]; exact if_pos hi
  have HFL : Hid (∀ i, (fr i).length ≤ 259) := by
    intro i
    rw [← hfr]
    by_cases hi : i < n
    · rw [show (fun i => if i < n then frOf f ks t0 i else []) i = frOf f ks t0 i from if_pos hi]; exact (HFB.out i hi).2
    · rw [show (fun i => if i < n then frOf f ks t0 i else []) i = [] from if_neg hi]; simp
  have HCB : Hid (∀ i c, i + c ≤ n → Bytes8 (cat fr i c)) := fun i c h => cat_bytes fr n (fun i hi => by rw [HFR.out i hi]; exact (HFB.out i hi).1) c i h
  have HCL : Hid (∀ c i, (cat fr i c).length ≤ 259 * c) := fun c i => cat_le fr HFL.out c i
  have HR := Lib.hid (fun W (hb : Below w.heap.size w W) => (hr.below hb).more hb.size)
  clear hr hw ht p0 p1 hin hf hfr
  go_enter Try.func5, Try.ntmps5
  go_wp2_with (go_at_call 12; refine (awake_any _).mono ?_; rintro e w1 ⟨rfl, hb⟩; have HB1 := Lib.hid hb; clear hb)
  go_loopw [5, 6] (fun l i wr => ∃ (k m : Nat) (B : Option Addr) (d : Nat), k ≤ n ∧ i = .int .i64 (k : Int) ∧ l = .slice B m d ∧ Hid ((cat fr 0 k).length = m) ∧ Hid (wr.ownsRow w.heap.size 5 1 (.slice B m d) m ((cat fr 0 k).map (Value.int .u8))) ∧ Hid (Below w.heap.size w wr)) (fun _ i _ => n - (intOf i).toNat)
  case atStart => exact ⟨0, 0, none, 0, by omega, rfl, rfl, Lib.hid rfl, own_none _ _ _, HB1⟩
  case round =>
    obtain ⟨k, m, B, d, hk, rfl, rfl, HML, HO, HB⟩ := hrel
    by_cases hlt : k < n
    · have hi : (k : Int) < (n : Int) := by omega
      have hi12 : (k : Int) < 12 := by omega
      obtain ⟨bA, offA, hAA, hbA, hcA⟩ := (HR.out _ HB.out).2 (by omega)
      subst hAA
      have hkk := hcA k (by omega)
      obtain ⟨z, hz⟩ : ∃ z, ks.getD k 0 = z := ⟨_, rfl⟩
      rw [hz] at hkk
      obtain ⟨zs, hzs⟩ : ∃ zs, f z = zs := ⟨_, rfl⟩
      have hp := HP.out k (by omega)
      rw [hz, hzs] at hp
      obtain ⟨l, hl⟩ : ∃ l, zs.length = l := ⟨_, rfl⟩
      obtain ⟨q1, q2, q3, q4⟩ := hp
      rw [hl] at q2 q3
      have CA := Lib.hid (q4 l hl)
      have hfrk : fr k = headOf (t0 + k) (1 + l) k ++ zs := by rw [HFR.out k hlt]; unfold frOf; rw [hz, hzs, hl]
      have HFK := Lib.hid hfrk
      have hm3 : m ≤ 3108 := by have := HCL.out k 0; rw [HML.out] at this; omega
      have CW2 := Lib.hid (fun W => within_any (t0 + k) 65536 W (by omega) (by omega) (by omega) (by omega))
      rw [show (t0 + (k : Int)) % 65536 = t0 + k by omega] at CW2
      have CB := Lib.hid (fun C cap W hr => abytes_yes C l cap zs (t0 + k) k W hr (by unfold hFits; omega))
      have hHL : Hid ((headOf (t0 + k) (1 + l) k ++ zs).length = 7 + l) := by rw [List.length_append, hl]; rfl
      clear hcA hz hzs q1 q4 hl hfrk
      go_wp2_with (first
        | (go_at_call 22
           refine (CA.out _).mono ?_
           rintro e w2 ⟨V, rfl, hb2, hV⟩
           have HV := Lib.hid hV
           have HB2 := Lib.hid hb2
           clear hb2 hV)
        | (go_at_call 21
           refine (HV.out _ (Below.refl _ _)).mono ?_
           rintro e w3 ⟨C3, cap3, rfl, hr3, hb3⟩
           have HR3 := Lib.hid hr3
           have HB3 := Lib.hid (HB2.out.trans (hb3.mono HB2.out.size))
           clear hr3 hb3)
        | (go_at_call 13; (with_reducible refine (CT.out _).mono ?_); rintro e w' ⟨rfl, rfl⟩)
        | (go_at_call 13; (with_reducible refine (CW2.out _).mono ?_); rintro e w' ⟨rfl, rfl⟩)
        | (go_at_call 15
           refine (CB.out _ _ _ HR3.out).mono ?_
           rintro e w4 ⟨g4, rfl, hg4, hw4, hb4⟩
           have hb24 := HB3.out.trans (hb4.mono HB3.out.size)
           have hr4 := hw4.row
           rw [hHL.out] at hr4
           have HR4 := Lib.hid hr4
           have HO4 := Lib.hid (own_keep HO.out hb24)
           have HB4 := Lib.hid (HB.out.trans (hb24.mono HB.out.size))
           clear hg4 hw4 hb4 hb24 hr4)
        | (at_builtin
           refine wpList_append_row _ (o := ⟨some 58, _, _, _, _, _⟩) ?_ (.tmp 56) (.tmp 57) 22 ?_ w.heap.size 5 (.int .u8 0) 1 Try.underlying22 info5 rfl (.slice B m d) m _ ?_ HO4.out _ (some ⟨g4, 0, none⟩) (7 + l) (7 + l) _ ?_ HR4.out.v (one_cells _ _) (by omega) (by omega) HB4.out.size ?_
           · rfl
           · rfl
           · rfl
           · rfl
           intro v5 w5 hown5 hg5 hat5
           rw [← List.map_append] at hown5
           obtain ⟨m5, hm5⟩ : ∃ m5, m + (7 + l) = m5 := ⟨_, rfl⟩
           rw [hm5] at hown5
           obtain ⟨B5, d5, rfl⟩ := own_slice hown5
           have HO5 := Lib.hid hown5
           have HM5 := Lib.hid hm5
           have HB5 := Lib.hid (below_append HB4.out HO4.out hg5 HB4.out.size)
           clear hown5 hg5 hat5 hm5))
      go_roundw
      case rel =>
        have hcs : cat fr 0 (k + 1) = cat fr 0 k ++ (headOf (t0 + k) (1 + l) k ++ zs) := by rw [cat_snoc, Nat.zero_add, HFK.out]
        refine ⟨k + 1, m5, B5, d5, by omega, by go_num, rfl, ?_, ?_, HB5⟩
        · rw [hcs, List.length_append, HML.out, hHL.out]; exact HM5.out
        · rw [hcs]; exact HO5.out
      case measure => simp [intOf]; omega
    · obtain rfl : n = k := by omega
      have hd : decide (n < n) = false := by simp
      have HB2 := HB
      have hm3 : m ≤ 3108 := by have := HCL.out n 0; rw [HML.out] at this; omega
      have hcap := own_cap8 HO.out
      have HRW : Hid (Row .u8 wr wr.heap.size B m (cat fr 0 n)) := (own_row HO.out).ints
      go_wp2
      go_loopw [5, 11] (fun l i wr => ∃ (j m : Nat) (B : Option Addr) (d : Nat), j ≤ n ∧ i = .int .i64 (j : Int) ∧ l = .slice B m d ∧ Hid ((cat fr j (n - j)).length = m) ∧ Hid (m ≤ d) ∧ Hid (Row .u8 wr wr.heap.size B m (cat fr j (n - j))) ∧ Hid (Below w.heap.size w wr)) (fun _ i _ => n - (intOf i).toNat)
      case atStart => exact ⟨0, m, B, d, by omega, rfl, rfl, HML, hcap, HRW, HB2⟩
      case round =>
        clear HO HML HRW HB2 HB hcap hm3
        obtain ⟨j, m, B, d, hj, rfl, rfl, HML, HCP, HRr, HB⟩ := hrel
        by_cases hlt2 : j < n
        · have hj1 : (j : Int) < (n : Int) := by omega
          have hj12 : (j : Int) < 12 := by omega
          obtain ⟨bA, offA, hAA, hbA, hcA⟩ := (HR.out _ HB.out).2 (by omega)
          subst hAA
          have hkk := hcA j (by omega)
          obtain ⟨z, hz⟩ : ∃ z, ks.getD j 0 = z := ⟨_, rfl⟩
          rw [hz] at hkk
          obtain ⟨zs, hzs⟩ : ∃ zs, f z = zs := ⟨_, rfl⟩
          have hp := HP.out j (by omega)
          rw [hz, hzs] at hp
          obtain ⟨l, hl⟩ : ∃ l, zs.length = l := ⟨_, rfl⟩
          obtain ⟨q1, q2, q3, q4⟩ := hp
          rw [hl] at q2 q3
          have CA := Lib.hid (q4 l hl)
          have hfrj : fr j = headOf (t0 + j) (1 + l) j ++ zs := by rw [HFR.out j (by omega)]; unfold frOf; rw [hz, hzs, hl]
          obtain ⟨r, hr⟩ : ∃ r, n - j = r + 1 := ⟨n - j - 1, by omega⟩
          have hrj : n - (j + 1) = r := by omega
          obtain ⟨ys, hys⟩ : ∃ ys, cat fr (j + 1) r = ys := ⟨_, rfl⟩
          have hcat : cat fr j (n - j) = headOf (t0 + j) (1 + l) j ++ zs ++ ys := by rw [hr, ← hys, ← hfrj]; rfl
          have hyb : Bytes8 ys := by rw [← hys]; exact HCB.out _ _ (by omega)
          have hml := HML.out
          have hrw := HRr.out
          rw [hcat] at hml hrw
          have hHL : (headOf (t0 + j) (1 + l) j ++ zs).length = 7 + l := by rw [List.length_append, hl]; rfl
          obtain ⟨q, hq⟩ : ∃ q, 7 + l = q := ⟨_, rfl⟩
          have hm2 : q + ys.length = m := by rw [← hml, List.length_append, hHL, hq]
          have hm3 : m ≤ 3108 := by have := HCL.out (n - j) j; rw [HML.out] at this; omega
          have CC := Lib.hid (fun W hR => acut_frame (t0 + j) j zs ys l m d B W hl q1 hyb (by unfold hFits; omega) (by omega) (by omega) HCP.out hR)
          rw [hq] at CC
          have hmq : ¬ (m : Int) < (q : Int) := by omega
          have hq8 : ¬ (q : Int) < 8 := by omega
          have hwj : IntKind.i64.wrap (t0 + (j : Int)) = t0 + (j : Int) := IntWalk.i64_in _ (by omega)
          have hmq2 : decide (m < q) = false := by simp; omega
          have hq82 : decide (q < 8) = false := by simp; omega
          have hq83 : decide ((q : Int) < 8) = false := by simp; omega
          have HRC := Lib.hid (fun W (hb : Below wr.heap.size wr W) => (hrw.below hb).more hb.size)
          have HZS : Hid (zs.length = l) := hl
          have HYS : Hid (cat fr (j + 1) (n - (j + 1)) = ys) := by rw [hrj]; exact hys
          have HHL : Hid ((headOf (t0 + j) (1 + l) j ++ zs).length = q) := by rw [hHL]; exact hq
          obtain ⟨bB, offB, hBB, hbB, hcB⟩ := hrw.2 (by omega)
          subst hBB
          have hcq0 : (0 : Int) ≤ (q : Int) := by omega
          have hcq1 : (q : Int) ≤ (m : Int) := by omega
          clear hcA hz hzs q1 q4 hl hfrj hcat hml hrw hr hrj hys hyb hHL hq hcB
          go_wp2_with (first
            | (go_at_call 22
               refine (CA.out _).mono ?_
               rintro e w2 ⟨V, rfl, hb2, hV⟩
               have HV := Lib.hid hV
               have HB2 := Lib.hid hb2
               clear hb2 hV)
            | (go_at_call 21
               refine (HV.out _ (Below.refl _ _)).mono ?_
               rintro e w3 ⟨C3, cap3, rfl, hr3, hb3⟩
               have HR3 := Lib.hid hr3
               have HB3 := Lib.hid (HB2.out.trans (hb3.mono HB2.out.size))
               clear hr3 hb3)
            | (go_at_call 18
               refine (CC.out _ (HRC.out _ HB3.out)).mono ?_
               rintro e w4 ⟨g4, rfl, hg4, hw4, hb4⟩
               have HR34 := Lib.hid ((HR3.out.below hb4).more hb4.size)
               have hr4 := hw4.row
               rw [HZS.out] at hr4
               have HR4 := Lib.hid hr4
               have HB4 := Lib.hid (HB3.out.trans (hb4.mono HB3.out.size))
               clear hg4 hw4 hb4 hr4))
          obtain ⟨w5, hw5⟩ : ∃ w5, w4.alloc (.cells #[.int .i64 (t0 + j), .int .i64 j, .slice (some ⟨g4, 0, none⟩) l l] 30) = w5 := ⟨_, rfl⟩
          have hal : Below w4.heap.size w4 w5 := by rw [← hw5]; exact (Below.refl _ _).alloc (Nat.le_refl _) _
          have hX5 : WholeV w5 w4.heap.size 30 [.int .i64 (t0 + j), .int .i64 j, .slice (some ⟨g4, 0, none⟩) l l] := by rw [← hw5]; exact heap_alloc_new w4 _
          have HX5 := Lib.hid hX5
          have HR35 := Lib.hid ((HR34.out.below hal).more hal.size)
          have HR45 := Lib.hid ((HR4.out.below hal).more hal.size)
          have HB5 := Lib.hid (HB4.out.trans (hal.mono HB4.out.size))
          rw [hw5]
          clear hw5 hal hX5
          have KS : Hid (∀ X, Below w5.heap.size w5 X → X.cell? ⟨w4.heap.size, 0, none⟩ = some (.int .i64 (t0 + j)) ∧ X.cell? ⟨w4.heap.size, 1, none⟩ = some (.int .i64 j) ∧ X.cell? ⟨w4.heap.size, 2, none⟩ = some (.slice (some ⟨g4, 0, none⟩) l l) ∧ (convert 22 9 (.slice (some ⟨g4, 0, none⟩) l l)).run Try.prog X = .ok (.string (strOfNums zs)) X ∧ (convert 22 9 (.slice C3 l cap3)).run Try.prog X = .ok (.string (strOfNums zs)) X ∧ Below w5.heap.size w5 X) := by
            intro X hX
            have hx := HX5.out.below hX HX5.out.lt
            exact ⟨hx.cell 0, hx.cell 1, hx.cell 2, conv_row _ l l zs _ ((HR45.out.below hX).more hX.size), conv_row _ l cap3 zs _ ((HR35.out.below hX).more hX.size), hX⟩
          go_region_held3 (fun X => X.cell? ⟨w4.heap.size, 0, none⟩ = some (.int .i64 (t0 + j)) ∧ X.cell? ⟨w4.heap.size, 1, none⟩ = some (.int .i64 j) ∧ X.cell? ⟨w4.heap.size, 2, none⟩ = some (.slice (some ⟨g4, 0, none⟩) l l) ∧ (convert 22 9 (.slice (some ⟨g4, 0, none⟩) l l)).run Try.prog X = .ok (.string (strOfNums zs)) X ∧ (convert 22 9 (.slice C3 l cap3)).run Try.prog X = .ok (.string (strOfNums zs)) X ∧ Below w5.heap.size w5 X)
            (exact KS.out _ (Below.refl _ _).drew)
            (first | (go_at_call 13; (with_reducible refine (CT.out _).mono ?_); rintro e w' ⟨rfl, rfl⟩))
          have hbd : Below wr.heap.size wr w5.drew := HB5.out.drew
          have hlen2 : (cat fr (j + 1) (n - (j + 1))).length = m - q := by rw [HYS.out]; omega
          have HL2 := Lib.hid hlen2
          have HBD := Lib.hid hbd
          have HB9 := Lib.hid (HB.out.trans (hbd.mono HB.out.size))
          have hrb := HRC.out _ hbd
          rw [show m = q + (m - q) by omega] at hrb
          have hback := row_back hrb HHL.out
          have HBK : Hid (Row .u8 w5.drew w5.drew.heap.size (some ⟨bB, offB + q, none⟩) (m - q) (cat fr (j + 1) (n - (j + 1)))) := by rw [HYS.out]; exact hback
          have hcp := HCP.out
          clear hbd hlen2 hrb hback
          by_cases hdq : d = q
          · have hmq0 : m - q = 0 := by omega
            have HNIL : Hid (Row .u8 w5.drew w5.drew.heap.size (some ⟨bB, offB, none⟩) (m - q) (cat fr (j + 1) (n - (j + 1)))) := by
              have h0 := HL2.out
              rw [hmq0] at h0 ⊢
              rw [List.eq_nil_of_length_eq_zero h0]
              exact Row.nil _ _ _ _
            have HMQ := Lib.hid hmq0
            clear hmq0
            go_wp2
            go_roundw
            case rel => exact ⟨j + 1, m - q, _, _, by omega, by go_num, rfl, HL2, Lib.hid (by have := HMQ.out; omega), HNIL, HB9⟩
            case measure => simp [intOf]; omega
          · go_wp2
            go_roundw
            case rel => exact ⟨j + 1, m - q, _, _, by omega, by go_num, rfl, HL2, Lib.hid (by omega), HBK, HB9⟩
            case measure => simp [intOf]; omega
        · have hjk : j = n := by omega
          have hm0 : m = 0 := by
            have h0 := HML.out
            rw [hjk, Nat.sub_self] at h0
            exact h0.symm
          have CE := Lib.hid (acut_err B 0 d [] wr 3 (Row.nil _ _ _ _) (fun x hx => by simp at hx) (by omega) rfl (by decide))
          subst hm0
          subst hjk
          have hd2 : decide (j < j) = false := by simp
          go_wp2_with (first
            | (go_at_call 18
               refine CE.out.mono ?_
               rintro e w4 ⟨rfl, hb4⟩
               have HB4 := Lib.hid (HB.out.trans (hb4.mono HB.out.size))
               clear hb4))
          go_ret
          exact ⟨rfl, HB4.out.alloc HB4.out.size _⟩

set_option maxRecDepth 100000 in
set_option maxHeartbeats 8000000 in
theorem walk_many (A : Option Addr) (n c : Nat) (ks : List Int) (tr t0 : Int) (f : Int → List Int) (w : World) (hr : Row .i64 w w.heap.size A n ks) (hw : ∀ k ∈ ks, -9223372036854775808 ≤ k ∧ k ≤ 9223372036854775807) (ht : tr % 60000 = t0) (p0 : -9223372036854775808 ≤ tr) (p1 : tr ≤ 9223372036854775807) (hnn : n ≤ 9223372036854775807) (hM : 12 < n)
    (hf : ∀ z, -9223372036854775808 ≤ z → z ≤ 9223372036854775807 → PduIs z tr (f z)) :
    Calls Try.prog 5 #[.slice A n c, .int .i64 tr] w fun e w' => e = .returned (.bool true) ∧ Below w.heap.size w w' := by
  have t00 : 0 ≤ t0 := by omega
  have t01 : t0 < 60000 := by omega
  have CT := Lib.hid (fun W => within_any tr 60000 W p0 p1 (by omega) (by omega))
  rw [ht] at CT
  have hin : ∀ i, i < n → -9223372036854775808 ≤ ks.getD i 0 ∧ ks.getD i 0 ≤ 9223372036854775807 := fun i hi => by
    have hl := hr.1
    rw [List.getD_eq_getElem?_getD, List.getElem?_eq_getElem (by omega)]
    exact hw _ (List.getElem_mem _)
  have HP : Hid (∀ i, i < n → PduIs (ks.getD i 0) tr (f (ks.getD i 0))) := fun i hi => hf _ (hin i hi).1 (hin i hi).2
  have HFB : Hid (∀ i, i < 12 → Bytes8 (frOf f ks t0 i) ∧ (frOf f ks t0 i).length ≤ 259) := by
    intro i hi
    obtain ⟨q1, q2, q3, _⟩ := HP.out i (by omega)
    refine ⟨frame_bytes _ _ _ _ (by unfold hFits; omega) q1, ?_⟩
    unfold frOf
    rw [List.length_append]
    show 7 + _ ≤ _
    omega
  obtain ⟨fr, hfr⟩ : ∃ fr : Nat → List Int, (fun i => if i < 12 then frOf f ks t0 i else []) = fr := ⟨_, rfl⟩
  have HFR : Hid (∀ i, i < 12 → fr i = frOf f ks t0 i) := fun i hi => by rw [← hfr]; exact if_pos hi
  have HFL : Hid (∀ i, (fr i).length ≤ 259) := by
    intro i
    rw [← hfr]
    by_cases hi : i < 12
    · rw [show (fun i => if i < 12 then frOf f ks t0 i else []) i = frOf f ks t0 i from if_pos hi]; exact (HFB.out i hi).2
    · rw [show (fun i => if i < 12 then frOf f ks t0 i else []) i = [] from if_neg hi]; simp
  have HCB : Hid (∀ i c, i + c ≤ 12 → Bytes8 (cat fr i c)) := fun i c h => cat_bytes fr 12 (fun i hi => by rw [HFR.out i hi]; exact (HFB.out i hi).1) c i h
  have HCL : Hid (∀ c i, (cat fr i c).length ≤ 259 * c) := fun c i => cat_le fr HFL.out c i
  have HR := Lib.hid (fun W (hb : Below w.heap.size w W) => (hr.below hb).more hb.size)
  clear hr hw ht p0 p1 hin hf hfr
  go_enter Try.func5, Try.ntmps5
  go_wp2_with (go_at_call 12; refine (awake_any _).mono ?_; rintro e w1 ⟨rfl, hb⟩; have HB1 := Lib.hid hb; clear hb)
  go_loopw [5, 6] (fun l i wr => ∃ (k m : Nat) (B : Option Addr) (d : Nat), k ≤ 12 ∧ i = .int .i64 (k : Int) ∧ l = .slice B m d ∧ Hid ((cat fr 0 k).length = m) ∧ Hid (wr.ownsRow w.heap.size 5 1 (.slice B m d) m ((cat fr 0 k).map (Value.int .u8))) ∧ Hid (Below w.heap.size w wr)) (fun _ i _ => 12 - (intOf i).toNat)
  case atStart => exact ⟨0, 0, none, 0, by omega, rfl, rfl, Lib.hid rfl, own_none _ _ _, HB1⟩
  case round =>
    obtain ⟨k, m, B, d, hk, rfl, rfl, HML, HO, HB⟩ := hrel
    by_cases hlt : k < 12
    · have hi : (k : Int) < (n : Int) := by omega
      have hi12 : (k : Int) < 12 := by omega
      obtain ⟨bA, offA, hAA, hbA, hcA⟩ := (HR.out _ HB.out).2 (by omega)
      subst hAA
      have hkk := hcA k (by omega)
      obtain ⟨z, hz⟩ : ∃ z, ks.getD k 0 = z := ⟨_, rfl⟩
      rw [hz] at hkk
      obtain ⟨zs, hzs⟩ : ∃ zs, f z = zs := ⟨_, rfl⟩
      have hp := HP.out k (by omega)
      rw [hz, hzs] at hp
      obtain ⟨l, hl⟩ : ∃ l, zs.length = l := ⟨_, rfl⟩
      obtain ⟨q1, q2, q3, q4⟩ := hp
      rw [hl] at q2 q3
      have CA := Lib.hid (q4 l hl)
      have hfrk : fr k = headOf (t0 + k) (1 + l) k ++ zs := by rw [HFR.out k hlt]; unfold frOf; rw [hz, hzs, hl]
      have HFK := Lib.hid hfrk
      have hm3 : m ≤ 3108 := by have := HCL.out k 0; rw [HML.out] at this; omega
      have CW2 := Lib.hid (fun W => within_any (t0 + k) 65536 W (by omega) (by omega) (by omega) (by omega))
      rw [show (t0 + (k : Int)) % 65536 = t0 + k by omega] at CW2
      have CB := Lib.hid (fun C cap W hr => abytes_yes C l cap zs (t0 + k) k W hr (by unfold hFits; omega))
      have hHL : Hid ((headOf (t0 + k) (1 + l) k ++ zs).length = 7 + l) := by rw [List.length_append, hl]; rfl
      clear hcA hz hzs q1 q4 hl hfrk
      go_wp2_with (first
        | (go_at_call 22
           refine (CA.out _).mono ?_
           rintro e w2 ⟨V, rfl, hb2, hV⟩
           have HV := Lib.hid hV
           have HB2 := Lib.hid hb2
           clear hb2 hV)
        | (go_at_call 21
           refine (HV.out _ (Below.refl _ _)).mono ?_
           rintro e w3 ⟨C3, cap3, rfl, hr3, hb3⟩
           have HR3 := Lib.hid hr3
           have HB3 := Lib.hid (HB2.out.trans (hb3.mono HB2.out.size))
           clear hr3 hb3)
        | (go_at_call 13; (with_reducible refine (CT.out _).mono ?_); rintro e w' ⟨rfl, rfl⟩)
        | (go_at_call 13; (with_reducible refine (CW2.out _).mono ?_); rintro e w' ⟨rfl, rfl⟩)
        | (go_at_call 15
           refine (CB.out _ _ _ HR3.out).mono ?_
           rintro e w4 ⟨g4, rfl, hg4, hw4, hb4⟩
           have hb24 := HB3.out.trans (hb4.mono HB3.out.size)
           have hr4 := hw4.row
           rw [hHL.out] at hr4
           have HR4 := Lib.hid hr4
           have HO4 := Lib.hid (own_keep HO.out hb24)
           have HB4 := Lib.hid (HB.out.trans (hb24.mono HB.out.size))
           clear hg4 hw4 hb4 hb24 hr4)
        | (at_builtin
           refine wpList_append_row _ (o := ⟨some 58, _, _, _, _, _⟩) ?_ (.tmp 56) (.tmp 57) 22 ?_ w.heap.size 5 (.int .u8 0) 1 Try.underlying22 info5 rfl (.slice B m d) m _ ?_ HO4.out _ (some ⟨g4, 0, none⟩) (7 + l) (7 + l) _ ?_ HR4.out.v (one_cells _ _) (by omega) (by omega) HB4.out.size ?_
           · rfl
           · rfl
           · rfl
           · rfl
           intro v5 w5 hown5 hg5 hat5
           rw [← List.map_append] at hown5
           obtain ⟨m5, hm5⟩ : ∃ m5, m + (7 + l) = m5 := ⟨_, rfl⟩
           rw [hm5] at hown5
           obtain ⟨B5, d5, rfl⟩ := own_slice hown5
           have HO5 := Lib.hid hown5
           have HM5 := Lib.hid hm5
           have HB5 := Lib.hid (below_append HB4.out HO4.out hg5 HB4.out.size)
           clear hown5 hg5 hat5 hm5))
      go_roundw
      case rel =>
        have hcs : cat fr 0 (k + 1) = cat fr 0 k ++ (headOf (t0 + k) (1 + l) k ++ zs) := by rw [cat_snoc, Nat.zero_add, HFK.out]
        refine ⟨k + 1, m5, B5, d5, by omega, by go_num, rfl, ?_, ?_, HB5⟩
        · rw [hcs, List.length_append, HML.out, hHL.out]; exact HM5.out
        · rw [hcs]; exact HO5.out
      case measure => simp [intOf]; omega
    · have hk12 : k = 12 := by omega
      have hi : (k : Int) < (n : Int) := by omega
      have hi12 : ¬ (k : Int) < 12 := by omega
      have HB2 := HB
      have hm3 : m ≤ 3108 := by have := HCL.out k 0; rw [HML.out] at this; omega
      have hcap := own_cap8 HO.out
      have HRW : Hid (Row .u8 wr wr.heap.size B m (cat fr 0 k)) := (own_row HO.out).ints
      go_wp2
      go_loopw [5, 11] (fun l i wr => ∃ (j m : Nat) (B : Option Addr) (d : Nat), j ≤ k ∧ i = .int .i64 (j : Int) ∧ l = .slice B m d ∧ Hid ((cat fr j (k - j)).length = m) ∧ Hid (m ≤ d) ∧ Hid (Row .u8 wr wr.heap.size B m (cat fr j (k - j))) ∧ Hid (Below w.heap.size w wr)) (fun _ i _ => k - (intOf i).toNat)
      case atStart => exact ⟨0, m, B, d, by omega, rfl, rfl, HML, hcap, HRW, HB2⟩
      case round =>
        clear HO HML HRW HB2 HB hcap hm3
        obtain ⟨j, m, B, d, hj, rfl, rfl, HML, HCP, HRr, HB⟩ := hrel
        by_cases hlt2 : j < k
        · have hj1 : (j : Int) < (n : Int) := by omega
          have hj12 : (j : Int) < 12 := by omega
          obtain ⟨bA, offA, hAA, hbA, hcA⟩ := (HR.out _ HB.out).2 (by omega)
          subst hAA
          have hkk := hcA j (by omega)
          obtain ⟨z, hz⟩ : ∃ z, ks.getD j 0 = z := ⟨_, rfl⟩
          rw [hz] at hkk
          obtain ⟨zs, hzs⟩ : ∃ zs, f z = zs := ⟨_, rfl⟩
          have hp := HP.out j (by omega)
          rw [hz, hzs] at hp
          obtain ⟨l, hl⟩ : ∃ l, zs.length = l := ⟨_, rfl⟩
          obtain ⟨q1, q2, q3, q4⟩ := hp
          rw [hl] at q2 q3
          have CA := Lib.hid (q4 l hl)
          have hfrj : fr j = headOf (t0 + j) (1 + l) j ++ zs := by rw [HFR.out j (by omega)]; unfold frOf; rw [hz, hzs, hl]
          obtain ⟨r, hr⟩ : ∃ r, k - j = r + 1 := ⟨k - j - 1, by omega⟩
          have hrj : k - (j + 1) = r := by omega
          obtain ⟨ys, hys⟩ : ∃ ys, cat fr (j + 1) r = ys := ⟨_, rfl⟩
          have hcat : cat fr j (k - j) = headOf (t0 + j) (1 + l) j ++ zs ++ ys := by rw [hr, ← hys, ← hfrj]; rfl
          have hyb : Bytes8 ys := by rw [← hys]; exact HCB.out _ _ (by omega)
          have hml := HML.out
          have hrw := HRr.out
          rw [hcat] at hml hrw
          have hHL : (headOf (t0 + j) (1 + l) j ++ zs).length = 7 + l := by rw [List.length_append, hl]; rfl
          obtain ⟨q, hq⟩ : ∃ q, 7 + l = q := ⟨_, rfl⟩
          have hm2 : q + ys.length = m := by rw [← hml, List.length_append, hHL, hq]
          have hm3 : m ≤ 3108 := by have := HCL.out (k - j) j; rw [HML.out] at this; omega
          have CC := Lib.hid (fun W hR => acut_frame (t0 + j) j zs ys l m d B W hl q1 hyb (by unfold hFits; omega) (by omega) (by omega) HCP.out hR)
          rw [hq] at CC
          have hmq : ¬ (m : Int) < (q : Int) := by omega
          have hq8 : ¬ (q : Int) < 8 := by omega
          have hwj : IntKind.i64.wrap (t0 + (j : Int)) = t0 + (j : Int) := IntWalk.i64_in _ (by omega)
          have hmq2 : decide (m < q) = false := by simp; omega
          have hq82 : decide (q < 8) = false := by simp; omega
          have hq83 : decide ((q : Int) < 8) = false := by simp; omega
          have HRC := Lib.hid (fun W (hb : Below wr.heap.size wr W) => (hrw.below hb).more hb.size)
          have HZS : Hid (zs.length = l) := hl
          have HYS : Hid (cat fr (j + 1) (k - (j + 1)) = ys) := by rw [hrj]; exact hys
          have HHL : Hid ((headOf (t0 + j) (1 + l) j ++ zs).length = q) := by rw [hHL]; exact hq
          obtain ⟨bB, offB, hBB, hbB, hcB⟩ := hrw.2 (by omega)
          subst hBB
          have hcq0 : (0 : Int) ≤ (q : Int) := by omega
          have hcq1 : (q : Int) ≤ (m : Int) := by omega
          clear hcA hz hzs q1 q4 hl hfrj hcat hml hrw hr hrj hys hyb hHL hq hcB
          go_wp2_with (first
            | (go_at_call 22
               refine (CA.out _).mono ?_
               rintro e w2 ⟨V, rfl, hb2, hV⟩
               have HV := Lib.hid hV
               have HB2 := Lib.hid hb2
               clear hb2 hV)
            | (go_at_call 21
               refine (HV.out _ (Below.refl _ _)).mono ?_
               rintro e w3 ⟨C3, cap3, rfl, hr3, hb3⟩
               have HR3 := Lib.hid hr3
               have HB3 := Lib.hid (HB2.out.trans (hb3.mono HB2.out.size))
               clear hr3 hb3)
            | (go_at_call 18
               refine (CC.out _ (HRC.out _ HB3.out)).mono ?_
               rintro e w4 ⟨g4, rfl, hg4, hw4, hb4⟩
               have HR34 := Lib.hid ((HR3.out.below hb4).more hb4.size)
               have hr4 := hw4.row
               rw [HZS.out] at hr4
               have HR4 := Lib.hid hr4
               have HB4 := Lib.hid (HB3.out.trans (hb4.mono HB3.out.size))
               clear hg4 hw4 hb4 hr4))
          obtain ⟨w5, hw5⟩ : ∃ w5, w4.alloc (.cells #[.int .i64 (t0 + j), .int .i64 j, .slice (some ⟨g4, 0, none⟩) l l] 30) = w5 := ⟨_, rfl⟩
          have hal : Below w4.heap.size w4 w5 := by rw [← hw5]; exact (Below.refl _ _).alloc (Nat.le_refl _) _
          have hX5 : WholeV w5 w4.heap.size 30 [.int .i64 (t0 + j), .int .i64 j, .slice (some ⟨g4, 0, none⟩) l l] := by rw [← hw5]; exact heap_alloc_new w4 _
          have HX5 := Lib.hid hX5
          have HR35 := Lib.hid ((HR34.out.below hal).more hal.size)
          have HR45 := Lib.hid ((HR4.out.below hal).more hal.size)
          have HB5 := Lib.hid (HB4.out.trans (hal.mono HB4.out.size))
          rw [hw5]
          clear hw5 hal hX5
          have KS : Hid (∀ X, Below w5.heap.size w5 X → X.cell? ⟨w4.heap.size, 0, none⟩ = some (.int .i64 (t0 + j)) ∧ X.cell? ⟨w4.heap.size, 1, none⟩ = some (.int .i64 j) ∧ X.cell? ⟨w4.heap.size, 2, none⟩ = some (.slice (some ⟨g4, 0, none⟩) l l) ∧ (convert 22 9 (.slice (some ⟨g4, 0, none⟩) l l)).run Try.prog X = .ok (.string (strOfNums zs)) X ∧ (convert 22 9 (.slice C3 l cap3)).run Try.prog X = .ok (.string (strOfNums zs)) X ∧ Below w5.heap.size w5 X) := by
            intro X hX
            have hx := HX5.out.below hX HX5.out.lt
            exact ⟨hx.cell 0, hx.cell 1, hx.cell 2, conv_row _ l l zs _ ((HR45.out.below hX).more hX.size), conv_row _ l cap3 zs _ ((HR35.out.below hX).more hX.size), hX⟩
          go_region_held3 (fun X => X.cell? ⟨w4.heap.size, 0, none⟩ = some (.int .i64 (t0 + j)) ∧ X.cell? ⟨w4.heap.size, 1, none⟩ = some (.int .i64 j) ∧ X.cell? ⟨w4.heap.size, 2, none⟩ = some (.slice (some ⟨g4, 0, none⟩) l l) ∧ (convert 22 9 (.slice (some ⟨g4, 0, none⟩) l l)).run Try.prog X = .ok (.string (strOfNums zs)) X ∧ (convert 22 9 (.slice C3 l cap3)).run Try.prog X = .ok (.string (strOfNums zs)) X ∧ Below w5.heap.size w5 X)
            (exact KS.out _ (Below.refl _ _).drew)
            (first | (go_at_call 13; (with_reducible refine (CT.out _).mono ?_); rintro e w' ⟨rfl, rfl⟩))
          have hbd : Below wr.heap.size wr w5.drew := HB5.out.drew
          have hlen2 : (cat fr (j + 1) (k - (j + 1))).length = m - q := by rw [HYS.out]; omega
          have HL2 := Lib.hid hlen2
          have HBD := Lib.hid hbd
          have HB9 := Lib.hid (HB.out.trans (hbd.mono HB.out.size))
          have hrb := HRC.out _ hbd
          rw [show m = q + (m - q) by omega] at hrb
          have hback := row_back hrb HHL.out
          have HBK : Hid (Row .u8 w5.drew w5.drew.heap.size (some ⟨bB, offB + q, none⟩) (m - q) (cat fr (j + 1) (k - (j + 1)))) := by rw [HYS.out]; exact hback
          have hcp := HCP.out
          clear hbd hlen2 hrb hback
          by_cases hdq : d = q
          · have hmq0 : m - q = 0 := by omega
            have HNIL : Hid (Row .u8 w5.drew w5.drew.heap.size (some ⟨bB, offB, none⟩) (m - q) (cat fr (j + 1) (k - (j + 1)))) := by
              have h0 := HL2.out
              rw [hmq0] at h0 ⊢
              rw [List.eq_nil_of_length_eq_zero h0]
              exact Row.nil _ _ _ _
            have HMQ := Lib.hid hmq0
            clear hmq0
            go_wp2
            go_roundw
            case rel => exact ⟨j + 1, m - q, _, _, by omega, by go_num, rfl, HL2, Lib.hid (by have := HMQ.out; omega), HNIL, HB9⟩
            case measure => simp [intOf]; omega
          · go_wp2
            go_roundw
            case rel => exact ⟨j + 1, m - q, _, _, by omega, by go_num, rfl, HL2, Lib.hid (by omega), HBK, HB9⟩
            case measure => simp [intOf]; omega
        · have hjk : j = k := by omega
          have hm0 : m = 0 := by
            have h0 := HML.out
            rw [hjk, Nat.sub_self] at h0
            exact h0.symm
          have CE := Lib.hid (acut_err B 0 d [] wr 3 (Row.nil _ _ _ _) (fun x hx => by simp at hx) (by omega) rfl (by decide))
          subst hm0
          have hi2 : (j : Int) < (n : Int) := by omega
          have hi22 : ¬ (j : Int) < 12 := by omega
          go_wp2_with (first
            | (go_at_call 18
               refine CE.out.mono ?_
               rintro e w4 ⟨rfl, hb4⟩
               have HB4 := Lib.hid (HB.out.trans (hb4.mono HB.out.size))
               clear hb4))
          go_ret
          exact ⟨rfl, HB4.out.alloc HB4.out.size _⟩

theorem walk (a0 : Option Addr) (len0 cap0 : Nat) (z0 : List Int) (a1 : Int) (w : World) (w0 : IsRow .i64 w a0 len0 cap0 z0) (w1 : (Lit.int .i64 a1).wf = true) :
    Calls Try.prog 5 #[.slice a0 len0 cap0, .int .i64 a1] w fun e w' => e = .returned (.bool true) ∧ Below w.heap.size w w' := by
  have h1 := bounds_i64 w1
  have hch : ∀ z : Int, ∃ zs : List Int, -9223372036854775808 ≤ z → z ≤ 9223372036854775807 → PduIs z a1 zs := by
    intro z
    by_cases hz : -9223372036854775808 ≤ z ∧ z ≤ 9223372036854775807
    · obtain ⟨zs, h⟩ := pdu_is z a1 hz.1 hz.2 h1.1 (by omega)
      exact ⟨zs, fun _ _ => h⟩
    · exact ⟨[], fun h2 h3 => absurd ⟨h2, h3⟩ hz⟩
  obtain ⟨f, hf⟩ := Classical.axiomOfChoice hch
  have hle := w0.le
  have hin : ∀ k ∈ z0.take len0, -9223372036854775808 ≤ k ∧ k ≤ 9223372036854775807 := fun k hk => by
    have := bounds_i64 (w0.wf k hk)
    omega
  by_cases h : len0 ≤ 12
  · exact walk_few a0 len0 cap0 _ a1 _ f w w0.row hin rfl h1.1 (by omega) (by unfold maxLen at hle; omega) h hf
  · exact walk_many a0 len0 cap0 _ a1 _ f w w0.row hin rfl h1.1 (by omega) (by unfold maxLen at hle; omega) (by omega) hf

set_option maxRecDepth 100000 in
theorem lifted (os : Os) (started : os.Started) (H : Type) (enc : TypeId × Value → H) :
    ReturnsInHanded {} Try.checked os 5 .any (Rows.aduRowSpec.pre6 enc Try.prog Try.f5 Rows.aduRowRow.domain false) (Rows.aduRowSpec.post enc Try.prog Try.f5 false true false false) := by
  refine returnsInHanded_of_change (C := Try.checked) own started (by kernel_rfl) Try.func5
    (ChangeSpec.witness6 (enc := enc) (C := Try.checked) false ⟨#[], #[.slice none 0 0, .int .i64 0], []⟩ 8 (by kernel_rfl) (by kernel_rfl) (by kernel_rfl) (by kernel_rfl)) ?_
  intro W base args ds gs before hval0 hW hcnd _
  have hval : ∀ (j : Nat) t v, Try.f5.params[j]? = some t → args[j]? = some v → Value.okWide Try.prog W .any base t v := hval0
  have hW' := hW
  obtain ⟨p, q, hA0, hV, rfl, hfz, hnd⟩ := hW
  have hA : DataW.TrodAll enc Try.prog W 0 (fun _ => true) true Try.f5.params.toList args.toList ds p := hA0
  rw [Try.params5] at hA hval
  obtain ⟨v0, vs0, d0, ds0, p0, q0, hargs, rfl, rfl, h0, r0⟩ := trodAll_cons hA
  obtain ⟨v1, vs1, d1, ds1, p1, q1, rfl, rfl, rfl, h1, r1⟩ := trodAll_cons r0
  obtain ⟨rfl, rfl, rfl⟩ := trodAll_nil r1
  obtain rfl : args = #[v0, v1] := by cases args; simp_all
  obtain ⟨rfl, rfl⟩ := trodVars_none hV
  obtain ⟨a0, len0, cap0, rfl⟩ := okWide_slice Try.underlying41 (hval 0 41 v0 rfl rfl)
  have k0 := h0
  have lt0 : ∀ x ∈ p0, x.block < W.heap.size := by obtain ⟨m, hm⟩ := k0; exact DataW.trod_lt m _ _ _ hm
  obtain ⟨z0, w0⟩ : ∃ zs, IsRow .i64 W a0 len0 cap0 zs := by
    obtain ⟨fuel, hf⟩ := h0
    rcases open_ints Try.underlying41 Try.underlying3 (by kernel_rfl) hf with ⟨hcs, _⟩ | ⟨x, l, c, zs, hcs, _, hl, hm, hz, _, hcell, hwz⟩
    · simp [Value.cells] at hcs
      obtain ⟨rfl, rfl, rfl⟩ := hcs
      exact ⟨[], .inl ⟨rfl, rfl, rfl, rfl⟩⟩
    · simp [Value.cells] at hcs
      obtain ⟨rfl, rfl, rfl⟩ := hcs
      exact ⟨zs, .inr ⟨_, rfl, hl, hm, by simpa using hz, hcell, hwz⟩⟩
  obtain ⟨a1, rfl, rfl, rfl, w1⟩ := open_int Try.underlying3 (hval 1 3 v1 rfl rfl) h1
  clear hA0 hval0
  refine (walk a0 len0 cap0 z0 a1 W w0 w1).mono fun e W' ⟨he, bel⟩ => ?_
  subst he
  exact ⟨_, rfl, _, _, _, [], _, [], hW', trodAll_mk1 (shut_bool Try.underlying4 _), (trodAll_cons_mk (Below.trod laidOut (by kernel_rfl) (of_decide_eq_true (by kernel_rfl)) k0 bel lt0) (trodAll_cons_mk (shut_int Try.underlying3 w1) trodAll_mk0)), rfl, bel.frame _, fun h => by cases h⟩

theorem over : Rows.aduRowRow.holds Try.pinned (OpenSpec.ofChange Rows.aduRowSpec) :=
  OpenClaim.holds_of_wide 5 Try.f5 rfl rfl rfl rfl rfl rfl rfl ⟨rfl, rfl, rfl, rfl, rfl⟩ rfl rfl rfl rfl rfl (by kernel_rfl) Try.func5 (by kernel_rfl)
    (of_decide_eq_true (by kernel_rfl)) (by unfold Func.isWrapper; first | (rw [if_pos (by decide +kernel)]; kernel_rfl) | (rw [if_neg (by decide +kernel)]; exact ⟨rfl, rfl⟩))
    (fun os started H enc _ => lifted os started H enc)

theorem proved : Rows.AduRowSaid := over
#print axioms proved
end Go.Proofs.Ytoljpdamalcjeaa.aduRow

/- Package ring: Put. -/
import Derived.Test.YthmendcdfhlkkaaRing1
import Derived.Deep.RegionLaw
namespace Go.Proofs.Ythmendcdfhlkkaa
open Go.ChangeShapes Go.WideShapes Go.ChangeAt Go.RowKit
set_option linter.unusedVariables false
set_option linter.unusedSimpArgs false

/-- The two blocks of a queue. -/
def GP (g p : Nat) : Nat → Prop := fun k => k = g ∨ k = p
theorem map_splice {α β : Type} (h : α → β) (L X : List α) (o : Nat) : (splice L o X).map h = splice (L.map h) o (X.map h) := by simp [splice]

/-- Some cells of a row, in a world that differs in other blocks alone. -/
theorem part_cells {S : Nat → Prop} {w W : World} {b off n : Nat} {zs : List Int} (h : RowOff w S (some ⟨b, off, none⟩) n zs) (ho : Off S w W) (k m : Nat) (hk : k + m ≤ n) :
    ∀ j v, (((zs.drop k).take m).map (Value.int .u8))[j]? = some v → W.cell? (Addr.add ⟨b, off + k, none⟩ j) = some v := by
  intro j v hv
  rw [List.getElem?_map, List.getElem?_take] at hv
  by_cases hj : j < m
  · obtain ⟨b', off', e, hb, hs, hc⟩ := h.2 (by omega)
    injection e with e
    injection e with e1 e2
    subst e1 e2
    have hl := h.1
    rw [if_pos hj, List.getElem?_drop, List.getElem?_eq_getElem (by omega)] at hv
    rw [add_none, ho.cell (p := ⟨b, off + k + j, none⟩) hb hs, Nat.add_assoc, hc (k + j) (by omega), ← hv, List.getD_eq_getElem?_getD, List.getElem?_eq_getElem (by omega)]
    rfl
  · rw [if_neg hj] at hv
    cases hv

section
variable {T : TypeId} {X : List Value} (w : World) (g p M f : Nat) (qs : List Int)

/-- What Put leaves. -/
def QPut (T : TypeId) (X : List Value) (m : Nat) (zs : List Int) (e : Ending) (w' : World) : Prop := e = .returned (.int .i64 (m : Int)) ∧ QAt T X w' g p M f (qs ++ zs.take m) ∧ Off (GP g p) w w'
/-- The same of a queue alone. -/
abbrev Putten (m : Nat) (zs : List Int) (e : Ending) (w' : World) : Prop := QPut w g p M f qs 118 [] m zs e w'

theorem putten_end (h : QAt T X w g p M f qs) (zs : List Int) (n m e k : Nat) (pl : List Int) (hz : zs.length = n) (hm : m ≤ n) (hq : qs.length + m ≤ M) (he : e = plc M f qs.length) (hk : k = min m (M - e)) (hpl : Holds pl M f qs)
    (w5 : World) (ho : Off (GP g p) w w5) (hg : WholeV w5 g T (.slice (some ⟨p, 0, none⟩) M M :: .int .i64 (f : Int) :: .int .i64 (qs.length : Int) :: X))
    (hp : w5.heap[p]? = some (.cells (splice (splice (pl.map (Value.int .u8)) e (((zs.take m).take k).map (Value.int .u8))) 0 (((zs.take m).drop k).map (Value.int .u8))).toArray 5 (0, 0))) :
    QPut w g p M f qs T X m zs (.returned (.int .i64 (m : Int))) (w5.setCell ⟨g, 2, none⟩ (.int .i64 ((qs.length : Int) + (m : Int)))) := by
  have hl : (zs.take m).length = m := by rw [List.length_take]; omega
  refine ⟨rfl, ⟨h.ne, h.most, ?_, splice (splice pl e ((zs.take m).take k)) 0 ((zs.take m).drop k), ?_, holds_put hpl (zs.take m) m e k hl hq he hk⟩, ho.setCell (.inl (.inl rfl)) _⟩
  · have hs := hg.set 2 (.int .i64 ((qs.length : Int) + (m : Int)))
    rw [List.length_append, hl, Int.natCast_add]
    exact hs
  · unfold Whole
    rw [Below.heap_setCell _ _ _ _ (Ne.symm h.ne), hp, map_splice, map_splice]

set_option maxRecDepth 100000 in
set_option maxHeartbeats 1000000 in
theorem put_some (b off n c : Nat) (zs : List Int) (m R : Nat) (h : QAt T X w g p M f qs) (hr : RowOff w (GP g p) (some ⟨b, off, none⟩) n zs) (hn : n ≤ 100000) (hc : n ≤ c) (hR : qs.length + R = M) (hm : (R < n ∧ m = R) ∨ (n ≤ R ∧ m = n)) (hm0 : 0 < m) :
    Calls Try.prog 72 #[.pointer (some ⟨g, 0, none⟩), .slice (some ⟨b, off, none⟩) n c] w (QPut w g p M f qs T X m zs) := by
  have h0 := h.head.cell 0
  have h2 := h.head.cell 2
  simp only [List.getElem?_cons_succ, List.getElem?_cons_zero] at h0 h2
  have hM := h.most
  obtain ⟨hf1, hf2⟩ := h.first
  obtain ⟨pl, HP, HH⟩ := h.holds
  have HE := Lib.hid (fun w5 => putten_end w g p M f qs h zs n m (plc M f qs.length) (min m (M - plc M f qs.length)) pl hr.1 (by omega) (by omega) rfl rfl HH w5)
  have CR := Lib.hid (room_any w g p M f qs h)
  have CP := Lib.hid (fun d => place_any (w.drewN d) g p M f qs qs.length (h.drewN d) (by omega))
  have HG := Lib.hid h.head
  have HNE := Lib.hid h.ne
  have he := plc_lt (M := M) (f := f) (i := qs.length) (by omega)
  obtain ⟨e, hee⟩ : ∃ e, plc M f qs.length = e := ⟨_, rfl⟩
  rw [hee] at HE CP he
  obtain ⟨k, hk⟩ : ∃ k, min m (M - e) = k := ⟨_, rfl⟩
  rw [hk] at HE
  obtain ⟨q, hq⟩ : ∃ q, qs.length = q := ⟨_, rfl⟩
  rw [hq] at HE CR CP HG h2 hR
  rw [show ((M : Int) - (q : Int)) = (R : Int) by omega] at CR
  obtain ⟨X1, hX1⟩ : ∃ X1, X1 = ((zs.take m).take k).map (Value.int .u8) := ⟨_, rfl⟩
  obtain ⟨X2, hX2⟩ : ∃ X2, X2 = ((zs.take m).drop k).map (Value.int .u8) := ⟨_, rfl⟩
  rw [← hX1, ← hX2] at HE
  have hzl := hr.1
  have HL1 : Hid (X1.length = k) := by show X1.length = k; rw [hX1, List.length_map, List.length_take, List.length_take]; omega
  have HL2 : Hid (X2.length = m - k) := by show X2.length = m - k; rw [hX2, List.length_map, List.length_drop, List.length_take]; omega
  have H1 : Hid (∀ u ∈ X1, u.oneCell' = true) := by rw [hX1]; exact one_cells _ _
  have H2 : Hid (∀ u ∈ X2, u.oneCell' = true) := by rw [hX2]; exact one_cells _ _
  have HS1 : Hid (∀ W, Off (GP g p) w W → ∀ j v, X1[j]? = some v → W.cell? (Addr.add ⟨b, off, none⟩ j) = some v) := by
    intro W hW
    rw [hX1, List.take_take, Nat.min_eq_left (show k ≤ m by omega)]
    exact part_cells hr hW 0 k (by omega)
  have HS2 : Hid (∀ W, Off (GP g p) w W → ∀ j v, X2[j]? = some v → W.cell? (Addr.add ⟨b, off + k, none⟩ j) = some v) := by
    intro W hW
    rw [hX2, List.drop_take]
    exact part_cells hr hW k (m - k) (by omega)
  have HPL : Hid ((pl.map (Value.int .u8)).length = M) := by show _ = _; rw [List.length_map]; exact HH.1
  have HW : Hid (w.heap[p]? = some (.cells (pl.map (Value.int .u8)).toArray 5 (0, 0))) := HP
  have HK := Lib.hid hk
  have hk1 : k ≤ m := by omega
  have hk2 : e + k ≤ M := by omega
  have hqR := hR
  have hlenR : (R : Int) ≤ 65536 := by omega
  have heM : (e : Int) ≤ (M : Int) := by omega
  have hmn : (m : Int) ≤ (n : Int) := by omega
  have hmc : (m : Int) ≤ (c : Int) := by omega
  have hkm : (k : Int) ≤ (m : Int) := by omega
  have hne1 : ¬ M = e := by omega
  have hqm : (q : Int) + (m : Int) ≤ 65536 := by omega
  have hmM : m ≤ M := by omega
  have HHM := Lib.hid hm
  have HRR := Lib.hid hR
  clear h hr HH HP hee hk hq hX1 hX2 hzl hR hqR hm hf1 hf2 hM
  rcases HHM.out with ⟨hlt, hmR⟩ | ⟨hle, hmn2⟩
  · subst hmR
    clear HHM
    go_enter Try.func72, Try.ntmps72
    go_wp2_with (first
      | (go_at_call 114; (with_reducible refine CR.out.mono ?_); rintro e w1 ⟨rfl, d1, rfl⟩)
      | (go_at_call 115; (with_reducible refine (CP.out _).mono ?_); rintro e w1 ⟨rfl, d2, rfl⟩))
    go_region_law (first
      | (refine step_copy_at rfl (.tmp 24) (.tmp 27) 22 22 rfl 5 Try.underlying22 (by kernel_rfl) (some ⟨p, e, none⟩) (some ⟨b, off, none⟩) (M - e) (M - e) m c rfl rfl p e (pl.map (Value.int .u8)) 5 HW.out X1 k HL1.out HK.out.symm (fun _ => ⟨rfl, _, rfl, HS1.out _ ((Off.refl _ w).drewN _).drew⟩) (by rw [HPL.out]; exact hk2) H1.out ?_
         intro w4 HG4 hO4
         have HO4 : Hid (Off (GP g p) w w4) := (((Off.refl (GP g p) w).drewN _).drew).trans (hO4.mono (T := GP g p) (fun i hi => .inr hi)) (fun i hi => .inl hi)
         have HH4 : Hid (WholeV w4 g T (.slice (some ⟨p, 0, none⟩) M M :: .int .i64 (f : Int) :: .int .i64 (q : Int) :: X)) := hO4.whole HG.out (fun e => HNE.out e)
         have h40 := HH4.out.cell 0
         simp only [List.getElem?_cons_succ, List.getElem?_cons_zero] at h40
         clear hO4))
    all_goals
      go_wp2
      by_cases hck : c = k
      · exact absurd hck (by omega)
      · have hck2 : ¬ (c : Int) = (k : Int) := by omega
        go_region_law (first
          | (refine step_copy_at rfl (.tmp 32) (.tmp 36) 22 22 rfl 5 Try.underlying22 (by kernel_rfl) (some ⟨p, 0, none⟩) (some ⟨b, off + k, none⟩) M M (m - k) (c - k) rfl rfl p 0 (splice (pl.map (Value.int .u8)) e X1) 5 HG4.out X2 (m - k) HL2.out (by show m - k = min (m - k) M; omega) (fun _ => ⟨rfl, _, rfl, HS2.out _ HO4.out.drew⟩) (by rw [length_splice _ _ _ (by rw [HPL.out, HL1.out]; exact hk2), HPL.out]; omega) H2.out ?_
             intro w5 HG5 hO5
             have HO5 : Hid (Off (GP g p) w w5) := HO4.out.drew.trans (hO5.mono (T := GP g p) (fun i hi => .inr hi)) (fun i hi => .inl hi)
             have HH5 : Hid (WholeV w5 g T (.slice (some ⟨p, 0, none⟩) M M :: .int .i64 (f : Int) :: .int .i64 (q : Int) :: X)) := hO5.whole HH4.out (fun e => HNE.out e)
             have h52 := HH5.out.cell 2
             simp only [List.getElem?_cons_succ, List.getElem?_cons_zero] at h52
             have hf52 := HH5.out.frozen 2
             clear hO5))
        all_goals
          go_wp2
          go_ret
          exact HE.out w5 HO5.out HH5.out HG5.out
  · subst hmn2
    clear HHM
    go_enter Try.func72, Try.ntmps72
    go_wp2_with (first
      | (go_at_call 114; (with_reducible refine CR.out.mono ?_); rintro e w1 ⟨rfl, d1, rfl⟩)
      | (go_at_call 115; (with_reducible refine (CP.out _).mono ?_); rintro e w1 ⟨rfl, d2, rfl⟩))
    go_region_law (first
      | (refine step_copy_at rfl (.tmp 24) (.tmp 27) 22 22 rfl 5 Try.underlying22 (by kernel_rfl) (some ⟨p, e, none⟩) (some ⟨b, off, none⟩) (M - e) (M - e) m c rfl rfl p e (pl.map (Value.int .u8)) 5 HW.out X1 k HL1.out HK.out.symm (fun _ => ⟨rfl, _, rfl, HS1.out _ ((Off.refl _ w).drewN _).drew⟩) (by rw [HPL.out]; exact hk2) H1.out ?_
         intro w4 HG4 hO4
         have HO4 : Hid (Off (GP g p) w w4) := (((Off.refl (GP g p) w).drewN _).drew).trans (hO4.mono (T := GP g p) (fun i hi => .inr hi)) (fun i hi => .inl hi)
         have HH4 : Hid (WholeV w4 g T (.slice (some ⟨p, 0, none⟩) M M :: .int .i64 (f : Int) :: .int .i64 (q : Int) :: X)) := hO4.whole HG.out (fun e => HNE.out e)
         have h40 := HH4.out.cell 0
         simp only [List.getElem?_cons_succ, List.getElem?_cons_zero] at h40
         clear hO4))
    all_goals
      go_wp2
      by_cases hck : c = k
      · have HX0 : Hid (X2.length = 0) := by show _ = _; rw [HL2.out]; omega
        have hkm2 : m = k := by omega
        subst hck
        subst hkm2
        go_region_law (first
          | (refine step_copy_at rfl (.tmp 32) (.tmp 36) 22 22 rfl 5 Try.underlying22 (by kernel_rfl) (some ⟨p, 0, none⟩) (some ⟨b, off, none⟩) M M 0 0 rfl rfl p 0 (splice (pl.map (Value.int .u8)) e X1) 5 HG4.out X2 0 HX0.out (by show 0 = min 0 M; omega) (fun h => absurd h (by omega)) (by rw [length_splice _ _ _ (by rw [HPL.out, HL1.out]; exact hk2), HPL.out]; omega) H2.out ?_
             intro w5 HG5 hO5
             have HO5 : Hid (Off (GP g p) w w5) := HO4.out.drew.trans (hO5.mono (T := GP g p) (fun i hi => .inr hi)) (fun i hi => .inl hi)
             have HH5 : Hid (WholeV w5 g T (.slice (some ⟨p, 0, none⟩) M M :: .int .i64 (f : Int) :: .int .i64 (q : Int) :: X)) := hO5.whole HH4.out (fun e => HNE.out e)
             have h52 := HH5.out.cell 2
             simp only [List.getElem?_cons_succ, List.getElem?_cons_zero] at h52
             have hf52 := HH5.out.frozen 2
             clear hO5))
        all_goals
          go_wp2
          go_ret
          exact HE.out w5 HO5.out HH5.out HG5.out
      · have hck2 : ¬ (c : Int) = (k : Int) := by omega
        go_region_law (first
          | (refine step_copy_at rfl (.tmp 32) (.tmp 36) 22 22 rfl 5 Try.underlying22 (by kernel_rfl) (some ⟨p, 0, none⟩) (some ⟨b, off + k, none⟩) M M (m - k) (c - k) rfl rfl p 0 (splice (pl.map (Value.int .u8)) e X1) 5 HG4.out X2 (m - k) HL2.out (by show m - k = min (m - k) M; omega) (fun _ => ⟨rfl, _, rfl, HS2.out _ HO4.out.drew⟩) (by rw [length_splice _ _ _ (by rw [HPL.out, HL1.out]; exact hk2), HPL.out]; omega) H2.out ?_
             intro w5 HG5 hO5
             have HO5 : Hid (Off (GP g p) w w5) := HO4.out.drew.trans (hO5.mono (T := GP g p) (fun i hi => .inr hi)) (fun i hi => .inl hi)
             have HH5 : Hid (WholeV w5 g T (.slice (some ⟨p, 0, none⟩) M M :: .int .i64 (f : Int) :: .int .i64 (q : Int) :: X)) := hO5.whole HH4.out (fun e => HNE.out e)
             have h52 := HH5.out.cell 2
             simp only [List.getElem?_cons_succ, List.getElem?_cons_zero] at h52
             have hf52 := HH5.out.frozen 2
             clear hO5))
        all_goals
          go_wp2
          go_ret
          exact HE.out w5 HO5.out HH5.out HG5.out

theorem putten_none (h : QAt T X w g p M f qs) (zs : List Int) (w5 : World) (ho : Off (fun k => k = p) w w5) (hp : w5.heap[p]? = w.heap[p]?) :
    QPut w g p M f qs T X 0 zs (.returned (.int .i64 0)) (w5.setCell ⟨g, 2, none⟩ (.int .i64 (qs.length : Int))) := by
  obtain ⟨pl, HP, HH⟩ := h.holds
  refine ⟨rfl, ?_, (ho.mono (T := GP g p) (fun i hi => .inr hi)).setCell (.inl (.inl rfl)) _⟩
  rw [List.take_zero, List.append_nil]
  refine ⟨h.ne, h.most, ?_, pl, ?_, HH⟩
  · exact (ho.whole h.head (fun e => h.ne e)).set 2 (.int .i64 (qs.length : Int))
  · exact (Below.heap_setCell _ _ _ _ (Ne.symm h.ne)).trans (hp.trans HP)

set_option maxRecDepth 100000 in
set_option maxHeartbeats 1000000 in
theorem put_none (A : Option Addr) (n c : Nat) (zs : List Int) (R : Nat) (h : QAt T X w g p M f qs) (hn : n ≤ 100000) (hR : qs.length + R = M) (hm : (R < n ∧ R = 0) ∨ n = 0) :
    Calls Try.prog 72 #[.pointer (some ⟨g, 0, none⟩), .slice A n c] w (QPut w g p M f qs T X 0 zs) := by
  have h0 := h.head.cell 0
  have h2 := h.head.cell 2
  simp only [List.getElem?_cons_succ, List.getElem?_cons_zero] at h0 h2
  have hM := h.most
  obtain ⟨hf1, hf2⟩ := h.first
  obtain ⟨pl, HP, HH⟩ := h.holds
  have HE := Lib.hid (fun w5 => putten_none w g p M f qs h zs w5)
  have CR := Lib.hid (room_any w g p M f qs h)
  have CP := Lib.hid (fun d => place_any (w.drewN d) g p M f qs qs.length (h.drewN d) (by omega))
  have HG := Lib.hid h.head
  have HNE := Lib.hid h.ne
  have he : (M = 0 ∧ plc M f qs.length = 0) ∨ (0 < M ∧ plc M f qs.length < M) := by
    rcases Nat.eq_zero_or_pos M with h | h
    · exact .inl ⟨h, by subst h; rfl⟩
    · exact .inr ⟨h, plc_lt h⟩
  obtain ⟨e, hee⟩ : ∃ e, plc M f qs.length = e := ⟨_, rfl⟩
  rw [hee] at CP he
  obtain ⟨q, hq⟩ : ∃ q, qs.length = q := ⟨_, rfl⟩
  rw [hq] at HE CR CP HG h2 hR
  rw [show ((M : Int) - (q : Int)) = (R : Int) by omega] at CR
  have HPL : Hid ((pl.map (Value.int .u8)).length = M) := by show _ = _; rw [List.length_map]; exact HH.1
  have HW : Hid (w.heap[p]? = some (.cells (pl.map (Value.int .u8)).toArray 5 (0, 0))) := HP
  have hlenR : (R : Int) ≤ 65536 := by omega
  have hqm : (q : Int) ≤ 65536 := by omega
  have HHE := Lib.hid he
  have HHM := Lib.hid hm
  clear h HH HP hee hq hR hm hf1 hf2 hM he
  rcases HHE.out with ⟨hM0, he0⟩ | ⟨hM1, he1⟩
  · subst hM0
    subst he0
    rcases HHM.out with ⟨hlt, hmR⟩ | hn0
    · subst hmR
      clear HHM HHE
      go_enter Try.func72, Try.ntmps72
      go_wp2_with (first
        | (go_at_call 114; (with_reducible refine CR.out.mono ?_); rintro e w1 ⟨rfl, d1, rfl⟩)
        | (go_at_call 115; (with_reducible refine (CP.out _).mono ?_); rintro e w1 ⟨rfl, d2, rfl⟩))
      go_region_law (first
        | (refine step_copy_at rfl (.tmp 24) (.tmp 27) 22 22 rfl 5 Try.underlying22 (by kernel_rfl) (some ⟨p, 0, none⟩) A 0 0 0 c rfl rfl p 0 (pl.map (Value.int .u8)) 5 HW.out [] 0 rfl (by simp [Nat.min_def]) (fun h => absurd h (by omega)) (by omega) (fun v hv => by cases hv) ?_
           intro w4 HG4 hO4
           have HO4 : Hid (Off (fun k => k = p) w w4) := (((Off.refl (fun k => k = p) w).drewN _).drew).trans hO4 (fun i hi => .inl hi)
           have HH4 : Hid (WholeV w4 g T (.slice (some ⟨p, 0, none⟩) 0 0 :: .int .i64 (f : Int) :: .int .i64 (q : Int) :: X)) := hO4.whole HG.out (fun e => HNE.out e)
           have h40 := HH4.out.cell 0
           simp only [List.getElem?_cons_succ, List.getElem?_cons_zero] at h40
           clear hO4))
      all_goals
        go_wp2
        go_region_law (first
          | (refine step_copy_at rfl (.tmp 32) (.tmp 36) 22 22 rfl 5 Try.underlying22 (by kernel_rfl) (some ⟨p, 0, none⟩) A 0 0 0 c rfl rfl p 0 (splice (pl.map (Value.int .u8)) 0 []) 5 HG4.out [] 0 rfl (by simp [Nat.min_def]) (fun h => absurd h (by omega)) (by omega) (fun v hv => by cases hv) ?_
             intro w5 HG5 hO5
             have HO5 : Hid (Off (fun k => k = p) w w5) := HO4.out.drew.trans hO5 (fun i hi => .inl hi)
             have HH5 : Hid (WholeV w5 g T (.slice (some ⟨p, 0, none⟩) 0 0 :: .int .i64 (f : Int) :: .int .i64 (q : Int) :: X)) := hO5.whole HH4.out (fun e => HNE.out e)
             have h52 := HH5.out.cell 2
             simp only [List.getElem?_cons_succ, List.getElem?_cons_zero] at h52
             have hf52 := HH5.out.frozen 2
             clear hO5))
        all_goals
          go_wp2
          go_ret
          exact HE.out w5 HO5.out ((show _ = _ from HG5.out).trans (by simp [splice]; exact HW.out.symm))
    · subst hn0
      clear HHM HHE
      go_enter Try.func72, Try.ntmps72
      go_wp2_with (first
        | (go_at_call 114; (with_reducible refine CR.out.mono ?_); rintro e w1 ⟨rfl, d1, rfl⟩)
        | (go_at_call 115; (with_reducible refine (CP.out _).mono ?_); rintro e w1 ⟨rfl, d2, rfl⟩))
      go_region_law (first
        | (refine step_copy_at rfl (.tmp 24) (.tmp 27) 22 22 rfl 5 Try.underlying22 (by kernel_rfl) (some ⟨p, 0, none⟩) A 0 0 0 c rfl rfl p 0 (pl.map (Value.int .u8)) 5 HW.out [] 0 rfl (by simp [Nat.min_def]) (fun h => absurd h (by omega)) (by omega) (fun v hv => by cases hv) ?_
           intro w4 HG4 hO4
           have HO4 : Hid (Off (fun k => k = p) w w4) := (((Off.refl (fun k => k = p) w).drewN _).drew).trans hO4 (fun i hi => .inl hi)
           have HH4 : Hid (WholeV w4 g T (.slice (some ⟨p, 0, none⟩) 0 0 :: .int .i64 (f : Int) :: .int .i64 (q : Int) :: X)) := hO4.whole HG.out (fun e => HNE.out e)
           have h40 := HH4.out.cell 0
           simp only [List.getElem?_cons_succ, List.getElem?_cons_zero] at h40
           clear hO4))
      all_goals
        go_wp2
        go_region_law (first
          | (refine step_copy_at rfl (.tmp 32) (.tmp 36) 22 22 rfl 5 Try.underlying22 (by kernel_rfl) (some ⟨p, 0, none⟩) A 0 0 0 c rfl rfl p 0 (splice (pl.map (Value.int .u8)) 0 []) 5 HG4.out [] 0 rfl (by simp [Nat.min_def]) (fun h => absurd h (by omega)) (by omega) (fun v hv => by cases hv) ?_
             intro w5 HG5 hO5
             have HO5 : Hid (Off (fun k => k = p) w w5) := HO4.out.drew.trans hO5 (fun i hi => .inl hi)
             have HH5 : Hid (WholeV w5 g T (.slice (some ⟨p, 0, none⟩) 0 0 :: .int .i64 (f : Int) :: .int .i64 (q : Int) :: X)) := hO5.whole HH4.out (fun e => HNE.out e)
             have h52 := HH5.out.cell 2
             simp only [List.getElem?_cons_succ, List.getElem?_cons_zero] at h52
             have hf52 := HH5.out.frozen 2
             clear hO5))
        all_goals
          go_wp2
          go_ret
          exact HE.out w5 HO5.out ((show _ = _ from HG5.out).trans (by simp [splice]; exact HW.out.symm))
  · have heM : (e : Int) ≤ (M : Int) := by omega
    have hne1 : ¬ M = e := by omega
    rcases HHM.out with ⟨hlt, hmR⟩ | hn0
    · subst hmR
      clear HHM HHE
      go_enter Try.func72, Try.ntmps72
      go_wp2_with (first
        | (go_at_call 114; (with_reducible refine CR.out.mono ?_); rintro e w1 ⟨rfl, d1, rfl⟩)
        | (go_at_call 115; (with_reducible refine (CP.out _).mono ?_); rintro e w1 ⟨rfl, d2, rfl⟩))
      go_region_law (first
        | (refine step_copy_at rfl (.tmp 24) (.tmp 27) 22 22 rfl 5 Try.underlying22 (by kernel_rfl) (some ⟨p, e, none⟩) A (M - e) (M - e) 0 c rfl rfl p 0 (pl.map (Value.int .u8)) 5 HW.out [] 0 rfl (by simp [Nat.min_def]) (fun h => absurd h (by omega)) (by omega) (fun v hv => by cases hv) ?_
           intro w4 HG4 hO4
           have HO4 : Hid (Off (fun k => k = p) w w4) := (((Off.refl (fun k => k = p) w).drewN _).drew).trans hO4 (fun i hi => .inl hi)
           have HH4 : Hid (WholeV w4 g T (.slice (some ⟨p, 0, none⟩) M M :: .int .i64 (f : Int) :: .int .i64 (q : Int) :: X)) := hO4.whole HG.out (fun e => HNE.out e)
           have h40 := HH4.out.cell 0
           simp only [List.getElem?_cons_succ, List.getElem?_cons_zero] at h40
           clear hO4))
      all_goals
        go_wp2
        go_region_law (first
          | (refine step_copy_at rfl (.tmp 32) (.tmp 36) 22 22 rfl 5 Try.underlying22 (by kernel_rfl) (some ⟨p, 0, none⟩) A M M 0 c rfl rfl p 0 (splice (pl.map (Value.int .u8)) 0 []) 5 HG4.out [] 0 rfl (by simp [Nat.min_def]) (fun h => absurd h (by omega)) (by omega) (fun v hv => by cases hv) ?_
             intro w5 HG5 hO5
             have HO5 : Hid (Off (fun k => k = p) w w5) := HO4.out.drew.trans hO5 (fun i hi => .inl hi)
             have HH5 : Hid (WholeV w5 g T (.slice (some ⟨p, 0, none⟩) M M :: .int .i64 (f : Int) :: .int .i64 (q : Int) :: X)) := hO5.whole HH4.out (fun e => HNE.out e)
             have h52 := HH5.out.cell 2
             simp only [List.getElem?_cons_succ, List.getElem?_cons_zero] at h52
             have hf52 := HH5.out.frozen 2
             clear hO5))
        all_goals
          go_wp2
          go_ret
          exact HE.out w5 HO5.out ((show _ = _ from HG5.out).trans (by simp [splice]; exact HW.out.symm))
    · subst hn0
      clear HHM HHE
      go_enter Try.func72, Try.ntmps72
      go_wp2_with (first
        | (go_at_call 114; (with_reducible refine CR.out.mono ?_); rintro e w1 ⟨rfl, d1, rfl⟩)
        | (go_at_call 115; (with_reducible refine (CP.out _).mono ?_); rintro e w1 ⟨rfl, d2, rfl⟩))
      go_region_law (first
        | (refine step_copy_at rfl (.tmp 24) (.tmp 27) 22 22 rfl 5 Try.underlying22 (by kernel_rfl) (some ⟨p, e, none⟩) A (M - e) (M - e) 0 c rfl rfl p 0 (pl.map (Value.int .u8)) 5 HW.out [] 0 rfl (by simp [Nat.min_def]) (fun h => absurd h (by omega)) (by omega) (fun v hv => by cases hv) ?_
           intro w4 HG4 hO4
           have HO4 : Hid (Off (fun k => k = p) w w4) := (((Off.refl (fun k => k = p) w).drewN _).drew).trans hO4 (fun i hi => .inl hi)
           have HH4 : Hid (WholeV w4 g T (.slice (some ⟨p, 0, none⟩) M M :: .int .i64 (f : Int) :: .int .i64 (q : Int) :: X)) := hO4.whole HG.out (fun e => HNE.out e)
           have h40 := HH4.out.cell 0
           simp only [List.getElem?_cons_succ, List.getElem?_cons_zero] at h40
           clear hO4))
      all_goals
        go_wp2
        go_region_law (first
          | (refine step_copy_at rfl (.tmp 32) (.tmp 36) 22 22 rfl 5 Try.underlying22 (by kernel_rfl) (some ⟨p, 0, none⟩) A M M 0 c rfl rfl p 0 (splice (pl.map (Value.int .u8)) 0 []) 5 HG4.out [] 0 rfl (by simp [Nat.min_def]) (fun h => absurd h (by omega)) (by omega) (fun v hv => by cases hv) ?_
             intro w5 HG5 hO5
             have HO5 : Hid (Off (fun k => k = p) w w5) := HO4.out.drew.trans hO5 (fun i hi => .inl hi)
             have HH5 : Hid (WholeV w5 g T (.slice (some ⟨p, 0, none⟩) M M :: .int .i64 (f : Int) :: .int .i64 (q : Int) :: X)) := hO5.whole HH4.out (fun e => HNE.out e)
             have h52 := HH5.out.cell 2
             simp only [List.getElem?_cons_succ, List.getElem?_cons_zero] at h52
             have hf52 := HH5.out.frozen 2
             clear hO5))
        all_goals
          go_wp2
          go_ret
          exact HE.out w5 HO5.out ((show _ = _ from HG5.out).trans (by simp [splice]; exact HW.out.symm))

end

end Go.Proofs.Ythmendcdfhlkkaa

/- Package desk: what a desk is; State, Many. No statement is proved here. -/
import Derived.Test.YtokljdkbheogoaaDesk1
namespace Go.Proofs.Ytokljdkbheogoaa
open Go.ChangeShapes Go.WideShapes Go.ChangeAt Go.RowKit
set_option linter.unusedVariables false
set_option linter.unusedSimpArgs false

/-- Block g is a desk of M places, as st says. -/
structure DkAt (T : TypeId) (w : World) (g M : Nat) (st : List Int) : Prop where
  most : M ≤ 32
  len : st.length = 32
  head : WholeV w g T (.int .i64 (M : Int) :: st.map (Value.int .i64))
  tail : ∀ j, M ≤ j → st.getD j 0 = 0

theorem DkAt.lt {T : TypeId} {w : World} {g M : Nat} {st : List Int} (h : DkAt T w g M st) : g < w.heap.size := h.head.lt
theorem DkAt.cell0 {T : TypeId} {w : World} {g M : Nat} {st : List Int} (h : DkAt T w g M st) : w.cell? ⟨g, 0, none⟩ = some (.int .i64 (M : Int)) := h.head.cell 0
theorem DkAt.cell {T : TypeId} {w : World} {g M : Nat} {st : List Int} (h : DkAt T w g M st) (j : Nat) (hj : j < 32) : w.cell? ⟨g, 1 + j, none⟩ = some (.int .i64 (st.getD j 0)) := by
  rw [Nat.add_comm, h.head.cell (j + 1)]
  have := h.len
  simp [List.getD_eq_getElem?_getD, List.getElem?_eq_getElem (show j < st.length by omega)]
theorem DkAt.frozen {T : TypeId} {w : World} {g M : Nat} {st : List Int} (h : DkAt T w g M st) (j : Nat) : w.frozen? ⟨g, j, none⟩ = false := h.head.frozen j
theorem DkAt.off {S : Nat → Prop} {T : TypeId} {w w' : World} {g M : Nat} {st : List Int} (h : DkAt T w g M st) (ho : Off S w w') (hg : ¬ S g) : DkAt T w' g M st := ⟨h.most, h.len, ho.whole h.head hg, h.tail⟩
theorem DkAt.below {T : TypeId} {w w' : World} {g M : Nat} {st : List Int} (h : DkAt T w g M st) (hb : Below w.heap.size w w') : DkAt T w' g M st := h.off (S := fun _ => False) (Off.of_below hb) id
theorem DkAt.drewN {T : TypeId} {w : World} {g M : Nat} {st : List Int} (h : DkAt T w g M st) (d : Nat) : DkAt T (w.drewN d) g M st := ⟨h.most, h.len, h.head, h.tail⟩
theorem tail_set {st : List Int} {M c : Nat} (v : Int) (ht : ∀ j, M ≤ j → st.getD j 0 = 0) (hc : c < M) (j : Nat) (hj : M ≤ j) : (st.set c v).getD j 0 = 0 := by
  rw [List.getD_eq_getElem?_getD, List.getElem?_set_ne (by omega), ← List.getD_eq_getElem?_getD]
  exact ht j hj
theorem DkAt.set {T : TypeId} {w : World} {g M : Nat} {st : List Int} (h : DkAt T w g M st) (c : Nat) (hc : c < M) (v : Int) : DkAt T (w.setCell ⟨g, 1 + c, none⟩ (.int .i64 v)) g M (st.set c v) :=
  ⟨h.most, by simp [h.len], by
    have := h.head.set (1 + c) (.int .i64 v)
    rw [Nat.add_comm 1 c] at this ⊢
    simpa [List.map_set] using this, tail_set v h.tail hc⟩
theorem DkAt.laid {T : TypeId} {w : World} {g M : Nat} {st : List Int} (h : DkAt T w g M st) (c : Nat) (hc : c < M) (v : Int) : DkAt T (w.setCells g 1 ((st.set c v).map (Value.int .i64))) g M (st.set c v) :=
  ⟨h.most, by simp [h.len], by
    have := whole_lay ((st.set c v).map (Value.int .i64)) 1 _ _ h.head
    rwa [lay_1 _ _ _ (by simp)] at this, tail_set v h.tail hc⟩

/-- How place c stands. -/
def dSt (M : Nat) (st : List Int) (c : Int) : Int := if c < 0 ∨ (M : Int) ≤ c then 0 else st.getD c.toNat 0
theorem dSt_in {M : Nat} {st : List Int} {k : Nat} (hk : k < M) : dSt M st (k : Int) = st.getD k 0 := by unfold dSt; rw [if_neg (by omega), Int.toNat_natCast]

/-- How many of the places are not Free. -/
def nz (st : List Int) : Nat := st.countP (· != 0)
theorem nz_take (st : List Int) (k : Nat) (hk : k < st.length) : nz (st.take (k + 1)) = nz (st.take k) + if st.getD k 0 != 0 then 1 else 0 := by
  unfold nz
  rw [List.take_succ_eq_append_getElem hk, List.countP_append, List.getD_eq_getElem?_getD, List.getElem?_eq_getElem hk]
  simp [List.countP_cons]
theorem nz_all (st : List Int) (M : Nat) (ht : ∀ j, M ≤ j → st.getD j 0 = 0) : nz st = nz (st.take M) := by
  unfold nz
  conv => lhs; rw [← List.take_append_drop M st]
  rw [List.countP_append]
  have : (st.drop M).countP (· != 0) = 0 := by
    rw [List.countP_eq_zero]
    intro x hx
    obtain ⟨i, hi, rfl⟩ := List.mem_iff_getElem.1 hx
    have := ht (M + i) (by omega)
    rw [List.length_drop] at hi
    rw [List.getD_eq_getElem?_getD, List.getElem?_eq_getElem (by omega)] at this
    simp at this
    simp [this]
  omega
theorem nz_le (st : List Int) (k : Nat) : nz (st.take k) ≤ k := Nat.le_trans List.countP_le_length (by simp; omega)

theorem infoI : (Try.prog.info? 3).map (fun i => (i.zero, i.size, i.bytes)) = some (some (.int .i64 0), 1, 8) := by kernel_rfl
theorem run_index_ints (t : TypeId) (n : Nat) (cs : Array Value) (i : Int) (v : Value) (w : World) (ht : Try.prog.underlying t = some (.array n 3)) (h0 : 0 ≤ i) (h1 : i < (n : Int)) (hv : cs[i.toNat]? = some v) :
    (Instr.index t (.agg cs) (.int .i64 i)).run Try.prog w = .ok v w := by
  obtain ⟨i0, hi0, hz0, hz1, hz2⟩ := info_parts infoI
  have hp : Try.prog.plainKey 3 = true := by kernel_rfl
  have hpart := run_part_plain (P := Try.prog) w hp (xs := cs) (off := i.toNat * 1) (by rw [Nat.mul_one]; exact hv)
  simp [Instr.index, run_underlying ht, sizeOf, typeInfo, hi0, hz1, h0, h1, asIntOf]
  rw [Nat.mul_one] at hpart
  exact hpart

section
variable {w : World} {g M : Nat} {st : List Int}

theorem state_any (c : Int) (h : DkAt 104 w g M st) : Calls Try.prog 33 #[.pointer (some ⟨g, 0, none⟩), .int .i64 c] w fun e w' => e = .returned (.int .i64 (dSt M st c)) ∧ w = w' := by
  have h0 := h.cell0
  have hm := h.most
  by_cases hc : c < 0
  · have HD := Lib.hid (show dSt M st c = 0 by unfold dSt; rw [if_pos (.inl hc)])
    rw [HD.out]
    clear h
    go_enter Try.func33, Try.ntmps33
    go_wp2
    go_ret
    exact ⟨rfl, rfl⟩
  · obtain ⟨k, rfl⟩ := Int.eq_ofNat_of_zero_le (show 0 ≤ c by omega)
    by_cases hk : k < M
    · have hx := h.cell k (by omega)
      rw [dSt_in hk]
      obtain ⟨x, hX⟩ : ∃ x, st.getD k 0 = x := ⟨_, rfl⟩
      rw [hX] at hx ⊢
      have hlt : ¬ (M : Int) ≤ (k : Int) := by omega
      clear h hX
      go_enter Try.func33, Try.ntmps33
      go_wp2
      go_ret
      exact ⟨rfl, rfl⟩
    · have HD := Lib.hid (show dSt M st (k : Int) = 0 by unfold dSt; rw [if_pos (.inr (by omega))])
      rw [HD.out]
      have hlt : (M : Int) ≤ (k : Int) := by omega
      clear h
      go_enter Try.func33, Try.ntmps33
      go_wp2
      go_ret
      exact ⟨rfl, rfl⟩

set_option maxRecDepth 100000 in
set_option maxHeartbeats 1000000 in
theorem taken_any (st : List Int) (hl : st.length = 32) (w : World) :
    Calls Try.prog 68 #[.agg (st.map (Value.int .i64)).toArray] w fun e w' => e = .returned (.int .i64 (nz st : Int)) ∧ Below w.heap.size w w' := by
  obtain ⟨V, hV⟩ : ∃ V, V = st.map (Value.int .i64) := ⟨_, rfl⟩
  have HL := Lib.hid (show V.length = 32 by rw [hV]; simp [hl])
  have HI := Lib.hid (show (Try.prog.info? 102).map (·.size) = some V.length by rw [HL.out]; exact infoP)
  have HG : Hid (∀ k, k < 32 → V.toArray[k]? = some (.int .i64 (st.getD k 0))) := by
    intro k hk
    rw [hV]
    simp [List.getD_eq_getElem?_getD, List.getElem?_eq_getElem (show k < st.length by omega)]
  have H2 : Hid (WholeV (w.alloc (.cells V.toArray 102)) w.heap.size 102 V) := heap_alloc_new w _
  have HB : Hid (Below w.heap.size w (w.alloc (.cells V.toArray 102))) := (Below.refl _ _).alloc (Nat.le_refl _) _
  rw [← hV]
  clear hV
  go_enter Try.func68, Try.ntmps68
  go_wp2_with (with_reducible refine wpList_load_mid (op := ⟨some 6, _, _, _, _, _⟩) rfl 102 (.tmp 1) rfl w.heap.size 0 rfl V (.array 32 3) H2.out.ranges Try.underlying102 rfl HI.out ?_)
  go_loopw [3, 7] (fun n i wr => ∃ k : Nat, k ≤ 32 ∧ i = .int .i64 (k : Int) ∧ n = .int .i64 (nz (st.take k) : Int) ∧ Hid (wr = w.alloc (.cells V.toArray 102))) (fun _ i _ => 32 - (intOf i).toNat)
  case atStart => exact ⟨0, by omega, rfl, rfl, rfl⟩
  case round =>
    obtain ⟨k, hk, rfl, rfl, HW⟩ := hrel
    have hle := nz_le st k
    by_cases hlt : k < 32
    · have hki : (k : Int) < 32 := by omega
      have HN := Lib.hid (nz_take st k (by omega))
      obtain ⟨x, hX⟩ : ∃ x, st.getD k 0 = x := ⟨_, rfl⟩
      have hix : ∀ W, (Instr.index 102 (.agg V.toArray) (.int .i64 (k : Int))).run Try.prog W = .ok (.int .i64 x) W := fun W => run_index_ints _ 32 _ _ _ _ Try.underlying102 (by omega) (by omega) (by rw [Int.toNat_natCast, ← hX]; exact HG.out k hlt)
      rw [hX] at HN
      clear hX
      obtain ⟨y, hY⟩ : ∃ y, nz (st.take k) = y := ⟨_, rfl⟩
      rw [hY] at hle HN ⊢
      clear hY
      by_cases h0 : x = 0
      · subst h0
        go_wp2
        go_roundw
        case rel => exact ⟨k + 1, by omega, by go_num, by rw [HN.out]; rfl, HW⟩
        case measure => simp [intOf]; omega
      · have hb : (x != 0) = true := by simp [h0]
        have hb2 : (x == 0) = false := by simp [h0]
        go_wp2
        go_roundw
        case rel => exact ⟨k + 1, by omega, by go_num, by rw [HN.out, hb]; go_num, HW⟩
        case measure => simp [intOf]; omega
    · obtain rfl : k = 32 := by omega
      have HE := Lib.hid (show nz (st.take 32) = nz st by rw [List.take_of_length_le (by omega)])
      go_wp2
      go_ret
      exact ⟨by rw [← HE.out]; rfl, by rw [HW.out]; exact HB.out⟩

end

end Go.Proofs.Ytokljdkbheogoaa

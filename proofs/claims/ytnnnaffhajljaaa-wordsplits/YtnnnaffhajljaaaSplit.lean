/- Contracts of Split, of the document's Split and Join, and of same. -/
import Derived.Test.YtnnnaffhajljaaaFrame
import Derived.Test.YtnnnaffhajljaaaDig
namespace Go.Proofs.Ytnnnaffhajljaaa
open Go.RowKit
set_option linter.unusedVariables false

theorem make_words (n : Nat) (hn : n ≤ 1000000) (W : World) :
    (Instr.makeSlice 35 (.int .i64 (n : Int)) (.int .i64 (n : Int))).run Try.prog W = .ok (.slice (some ⟨W.heap.size, 0, none⟩) n n) (W.alloc (.cells ((List.replicate n (0 : Int)).map (Value.int .u16)).toArray 23)) := by
  obtain ⟨i0, hi0, hz0, hz1, hz2⟩ := info_parts info23
  have hr := run_make (P := Try.prog) W 35 23 i0 _ Try.underlying35 hi0 hz0 .i64 .i64 n n (by omega) (by omega) (by rw [hz2]; omega) (by omega)
  simp only [Int.toNat_natCast, hz1, Nat.mul_one] at hr
  rw [hr]
  congr 2
  apply congrArg (fun x => Obj.cells x 23)
  apply Array.toList_inj.1
  simp [Value.cells, toList_madeCells_one]

theorem place_any (l : Bool) (i n : Nat) (w : World) (h1 : i < n) (h2 : n ≤ 1000) : Calls Try.prog 26 #[.int .i64 (i : Int), .int .i64 (n : Int), .bool l] w fun e w' => e = .returned (.int .i64 ((pl l n i : Nat) : Int)) ∧ w = w' := by
  cases l
  · exact place_big i n w
  · have h := place_little i n w (by omega) (by omega) (by omega)
    have e : ((pl true n i : Nat) : Int) = (n : Int) - 1 - i := by simp [pl]; omega
    rw [e]
    exact h

/-- A row of n words whose words of rank below k are laid. -/
def Laid (v : Int) (n : Nat) (l : Bool) (k : Nat) (cur : List Int) : Prop := cur.length = n ∧ ∀ i, i < k → cur.getD (pl l n i) 0 = wd v n i
theorem Laid.start (v : Int) (n : Nat) (l : Bool) : Laid v n l 0 (List.replicate n 0) := ⟨by simp, fun i h => absurd h (by omega)⟩
theorem pl_ne (l : Bool) (n i j : Nat) (hi : i < n) (hj : j < n) (h : i ≠ j) : pl l n i ≠ pl l n j := by unfold pl; split <;> omega
theorem Laid.step {v : Int} {n : Nat} {l : Bool} {k : Nat} {cur : List Int} (h : Laid v n l k cur) (hk : k < n) : Laid v n l (k + 1) (cur.set (pl l n k) (wd v n k)) := by
  have hp := pl_lt l n k hk
  refine ⟨by rw [List.length_set]; exact h.1, fun i hi => ?_⟩
  by_cases e : i = k
  · subst e
    simp [List.getD, h.1, hp]
  · have hn := pl_ne l n i k (by omega) hk e
    have h2 := h.2 i (by omega)
    simp only [List.getD] at h2 ⊢
    rw [List.getElem?_set_ne (Ne.symm hn)]
    exact h2
theorem Laid.done {v : Int} {n : Nat} {l : Bool} {cur : List Int} (h : Laid v n l n cur) : cur = wds v n l := ext_wds v n l cur h.1 h.2
theorem Whole.set_ {k : IntKind} {w : World} {g : Nat} {t : TypeId} {zs : List Int} (h : Whole k w g t zs) (i : Nat) (x : Int) : Whole k (w.setCell ⟨g, i, none⟩ (.int k x)) g t (zs.set i x) := by
  have hq := heap_set _ _ i _ _ _ h (.int k x)
  unfold Whole
  rw [hq]
  congr 2
  apply Array.toList_inj.1
  simp [List.map_set]

theorem u16_wrap (x : Int) : IntKind.u16.wrap x = x % 65536 := by simp [IntKind.wrap, IntKind.signed, IntKind.bits]

theorem split_yes (v : Int) (n : Nat) (l : Bool) (w : World) (h0 : 0 ≤ v) (hv : v < 18446744073709551616) (hn1 : 1 ≤ n) (hn4 : n ≤ 4) (hf : v / 2 ^ (16 * n) = 0) :
    Calls Try.prog 20 #[.int .u64 v, .int .i64 (n : Int), .bool l] w fun e w' => e = .returned (.tuple #[.slice (some ⟨w.heap.size, 0, none⟩) n n, .bool true]) ∧ Whole .u16 w' w.heap.size 23 (wds v n l) ∧ Below w.heap.size w w' := by
  have hmk : ∀ W : World, (Instr.makeSlice 35 (.int .i64 (n : Int)) (.int .i64 (n : Int))).run Try.prog W = .ok (.slice (some ⟨W.heap.size, 0, none⟩) n n) (W.alloc (.cells ((List.replicate n (0 : Int)).map (Value.int .u16)).toArray 23)) :=
    fun W => make_words n (by omega) W
  have hg1 : 1 ≤ (n : Int) := by omega
  have hg4 : (n : Int) ≤ 4 := by omega
  have hne : (v / 2 ^ (16 * n) != 0) = false := by rw [hf]; rfl
  clear hf
  have hst : Whole .u16 (w.alloc (.cells (Array.replicate n (Value.int .u16 0)) 23)) w.heap.size 23 (List.replicate n 0) := by
    unfold Whole
    rw [List.map_replicate, List.toArray_replicate]
    exact heap_alloc_new w _
  have HS := Lib.hid hst
  have HBS := Lib.hid ((Below.refl w.heap.size w).alloc (Nat.le_refl _) (.cells (Array.replicate n (Value.int .u16 0)) 23))
  clear hst
  go_enter Try.func20, Try.ntmps20
  go_wp2_with (go_at_call 25; refine (joins_yes _ _ (by omega) (by omega)).mono ?_; rintro e w1 ⟨rfl, rfl⟩)
  go_loopw [23] (fun i wr => ∃ (k : Nat) (cur : List Int), k ≤ n ∧ i = .int .i64 (k : Int) ∧ Hid (Laid v n l k cur) ∧ Hid (Whole .u16 wr w.heap.size 23 cur) ∧ Hid (Below w.heap.size w wr)) (fun i _ => n - (intOf i).toNat)
  case atStart => exact ⟨0, _, by omega, rfl, Laid.start v n l, HS, HBS⟩
  case round =>
    obtain ⟨k, cur, hk, rfl, HL, HW, HB⟩ := hrel
    by_cases hlt : k < n
    · have hp := pl_lt l n k hlt
      obtain ⟨p, hpp⟩ : ∃ p, p = pl l n k := ⟨_, rfl⟩
      rw [← hpp] at hp
      have hp1 : (p : Int) < (n : Int) := by omega
      have hc1 := HW.out.cell p (by rw [HL.out.1]; exact hp)
      have hf1 := HW.out.frozen p
      have HP := Lib.hid hpp
      have hi1 : (k : Int) < (n : Int) := by omega
      have hplace : Hid (∀ W, Calls Try.prog 26 #[.int .i64 (k : Int), .int .i64 (n : Int), .bool l] W fun e w' => e = .returned (.int .i64 (p : Int)) ∧ W = w') := fun W => by
        rw [hpp]; exact place_any l k n W hlt (by omega)
      clear hpp
      go_wp2_with fail
      have e1 : IntKind.i64.wrap ((n : Int) - 1) = (n : Int) - 1 := IntWalk.i64_in _ (by omega)
      have e2 : IntKind.i64.wrap ((n : Int) - 1 - k) = (n : Int) - 1 - k := IntWalk.i64_in _ (by omega)
      have e3 : IntKind.i64.wrap (16 * ((n : Int) - 1 - k)) = 16 * ((n : Int) - 1 - k) := IntWalk.i64_in _ (by omega)
      have e4 : 0 ≤ 16 * ((n : Int) - 1 - k) := by omega
      have e5 : 16 * ((n : Int) - 1 - k) ≤ 64 := by omega
      go_region_held (fun _ => True) (trivial)
        (first
          | (go_at_call 26; refine (hplace.out _).mono ?_; rintro e w1 ⟨rfl, rfl⟩))
      clear e1 e2 e3 e4 e5
      have HE : Hid (IntKind.u16.wrap (v / 2 ^ (16 * (n - 1 - k))) = wd v n k) := by
        rw [u16_wrap]
        exact rfl
      go_wp2
      go_roundw
      case rel =>
        refine ⟨k + 1, cur.set p (wd v n k), by omega, by go_num, ?_, ?_, ?_⟩
        · rw [HP.out]; exact HL.out.step hlt
        · have h := HW.out.set_ p (wd v n k)
          rw [← HE.out] at h ⊢
          exact h
        · exact (HB.out.setCell (Nat.le_refl _) _).drew
      case measure => simp [intOf]; omega
    · obtain rfl : n = k := by omega
      go_wp2
      go_ret2
      refine ⟨rfl, ?_, HB.out⟩
      have h := HW.out
      rw [HL.out.done] at h
      exact h

theorem split_out (v m : Int) (l : Bool) (w : World) (h : m < 1 ∨ 4 < m) :
    Calls Try.prog 20 #[.int .u64 v, .int .i64 m, .bool l] w fun e w' => e = .returned (.tuple #[.slice none 0 0, .bool false]) ∧ w = w' := by
  have H := Lib.hid h
  clear h
  go_enter Try.func20, Try.ntmps20
  go_wp2_with (go_at_call 25; refine (joins_no _ _ H.out).mono ?_; rintro e w1 ⟨rfl, rfl⟩)
  go_ret2
  exact ⟨rfl, rfl⟩

theorem split_much (v : Int) (n : Nat) (l : Bool) (w : World) (h0 : 0 ≤ v) (hv : v < 18446744073709551616) (hn1 : 1 ≤ n) (hn4 : n ≤ 4) (hf : v / 2 ^ (16 * n) ≠ 0) :
    Calls Try.prog 20 #[.int .u64 v, .int .i64 (n : Int), .bool l] w fun e w' => e = .returned (.tuple #[.slice none 0 0, .bool false]) ∧ w = w' := by
  have hg1 : 1 ≤ (n : Int) := by omega
  have hg4 : (n : Int) ≤ 4 := by omega
  have hne : (v / 2 ^ (16 * n) != 0) = true := by simpa using hf
  clear hf
  go_enter Try.func20, Try.ntmps20
  go_wp2_with (go_at_call 25; refine (joins_yes _ _ (by omega) (by omega)).mono ?_; rintro e w1 ⟨rfl, rfl⟩)
  go_ret2
  exact ⟨rfl, rfl⟩

theorem refsplit_out (v m : Int) (l : Bool) (w : World) (h : m < 1 ∨ 4 < m) :
    Calls Try.prog 21 #[.int .u64 v, .int .i64 m, .bool l] w fun e w' => e = .returned (.tuple #[.slice none 0 0, .bool false]) ∧ w = w' := by
  rcases h with h | h
  · go_enter Try.func21, Try.ntmps21
    go_wp2
    go_ret2
    exact ⟨rfl, rfl⟩
  · have h1 : 1 ≤ m := by omega
    go_enter Try.func21, Try.ntmps21
    go_wp2
    go_ret2
    exact ⟨rfl, rfl⟩

/-- A row of n words whose words of rank n - 1 - i, i below k, are laid. -/
def Laid2 (v : Int) (n : Nat) (l : Bool) (k : Nat) (cur : List Int) : Prop := cur.length = n ∧ ∀ i, i < k → cur.getD (pl l n (n - 1 - i)) 0 = wd v n (n - 1 - i)
theorem Laid2.start (v : Int) (n : Nat) (l : Bool) : Laid2 v n l 0 (List.replicate n 0) := ⟨by simp, fun i h => absurd h (by omega)⟩
theorem Laid2.step {v : Int} {n : Nat} {l : Bool} {k : Nat} {cur : List Int} (h : Laid2 v n l k cur) (hk : k < n) : Laid2 v n l (k + 1) (cur.set (pl l n (n - 1 - k)) (wd v n (n - 1 - k))) := by
  have hp := pl_lt l n (n - 1 - k) (by omega)
  refine ⟨by rw [List.length_set]; exact h.1, fun i hi => ?_⟩
  by_cases e : i = k
  · subst e
    simp [List.getD, h.1, hp]
  · have hn := pl_ne l n (n - 1 - i) (n - 1 - k) (by omega) (by omega) (by omega)
    have h2 := h.2 i (by omega)
    simp only [List.getD] at h2 ⊢
    rw [List.getElem?_set_ne (Ne.symm hn)]
    exact h2
theorem Laid2.done {v : Int} {n : Nat} {l : Bool} {cur : List Int} (h : Laid2 v n l n cur) : cur = wds v n l := ext_wds v n l cur h.1 fun i hi => by
  have := h.2 (n - 1 - i) (by omega)
  have e : n - 1 - (n - 1 - i) = i := by omega
  rw [e] at this
  exact this
theorem wd_back (v : Int) (n k : Nat) (hk : k < n) : wd v n (n - 1 - k) = v / 2 ^ (16 * k) % 65536 := by
  unfold wd
  have e : n - 1 - (n - 1 - k) = k := by omega
  rw [e]

theorem refsplit_any (v : Int) (n : Nat) (l : Bool) (w : World) (h0 : 0 ≤ v) (hv : v < 18446744073709551616) (hn1 : 1 ≤ n) (hn4 : n ≤ 4) :
    Calls Try.prog 21 #[.int .u64 v, .int .i64 (n : Int), .bool l] w fun e w' => (v / 2 ^ (16 * n) = 0 → e = .returned (.tuple #[.slice (some ⟨w.heap.size, 0, none⟩) n n, .bool true])) ∧ (v / 2 ^ (16 * n) ≠ 0 → e = .returned (.tuple #[.slice none 0 0, .bool false])) ∧ Whole .u16 w' w.heap.size 23 (wds v n l) ∧ Below w.heap.size w w' := by
  have hmk : ∀ W : World, (Instr.makeSlice 35 (.int .i64 (n : Int)) (.int .i64 (n : Int))).run Try.prog W = .ok (.slice (some ⟨W.heap.size, 0, none⟩) n n) (W.alloc (.cells ((List.replicate n (0 : Int)).map (Value.int .u16)).toArray 23)) :=
    fun W => make_words n (by omega) W
  have hg1 : 1 ≤ (n : Int) := by omega
  have hg4 : (n : Int) ≤ 4 := by omega
  have hst : Whole .u16 (w.alloc (.cells (Array.replicate n (Value.int .u16 0)) 23)) w.heap.size 23 (List.replicate n 0) := by
    unfold Whole
    rw [List.map_replicate, List.toArray_replicate]
    exact heap_alloc_new w _
  have HS := Lib.hid hst
  have HBS := Lib.hid ((Below.refl w.heap.size w).alloc (Nat.le_refl _) (.cells (Array.replicate n (Value.int .u16 0)) 23))
  clear hst
  go_enter Try.func21, Try.ntmps21
  go_wp2
  go_loopw [0, 9] (fun x i wr => ∃ (k : Nat) (q : Int) (cur : List Int), k ≤ n ∧ i = .int .i64 (k : Int) ∧ x = .int .u64 q ∧ 0 ≤ q ∧ q < 18446744073709551616 ∧ Hid (q = v / 2 ^ (16 * k)) ∧ Hid (Laid2 v n l k cur) ∧ Hid (Whole .u16 wr w.heap.size 23 cur) ∧ Hid (Below w.heap.size w wr)) (fun _ i _ => n - (intOf i).toNat)
  case atStart => exact ⟨0, v, _, by omega, rfl, rfl, h0, hv, (by show v = _; simp), Laid2.start v n l, HS, HBS⟩
  case round =>
    obtain ⟨k, q, cur, hk, rfl, rfl, hq0, hq1, HQ, HL, HW, HB⟩ := hrel
    by_cases hlt : k < n
    · have hi1 : (k : Int) < (n : Int) := by omega
      have HE : Hid (q % 65536 = wd v n (n - 1 - k)) := by rw [wd_back v n k hlt, HQ.out]; exact rfl
      have HQ2 : Hid (q / 65536 = v / 2 ^ (16 * (k + 1))) := by rw [div_step, ← HQ.out]; exact rfl
      have hb0 : 0 ≤ q / 65536 ∧ q / 65536 < 18446744073709551616 := by omega
      cases l
      · have hc1 := HW.out.cell (n - 1 - k) (by rw [HL.out.1]; omega)
        have hf1 := HW.out.frozen (n - 1 - k)
        go_wp2
        go_roundw
        case rel =>
          refine ⟨k + 1, q / 65536, cur.set (n - 1 - k) (wd v n (n - 1 - k)), by omega, by go_num, rfl, hb0.1, hb0.2, HQ2, HL.out.step hlt, ?_, HB.out.setCell (Nat.le_refl _) _⟩
          have h := HW.out.set_ (n - 1 - k) (wd v n (n - 1 - k))
          rw [← HE.out] at h ⊢
          exact h
        case measure => simp [intOf]; omega
      · have hc1 := HW.out.cell k (by rw [HL.out.1]; omega)
        have hf1 := HW.out.frozen k
        have HP : Hid (pl true n (n - 1 - k) = k) := by show pl true n (n - 1 - k) = k; simp [pl]; omega
        go_wp2
        go_roundw
        case rel =>
          refine ⟨k + 1, q / 65536, cur.set k (wd v n (n - 1 - k)), by omega, by go_num, rfl, hb0.1, hb0.2, HQ2, ?_, ?_, HB.out.setCell (Nat.le_refl _) _⟩
          · have h := HL.out.step hlt
            rw [HP.out] at h
            exact h
          · have h := HW.out.set_ k (wd v n (n - 1 - k))
            rw [← HE.out] at h ⊢
            exact h
        case measure => simp [intOf]; omega
    · obtain rfl : n = k := by omega
      have HW2 : Hid (Whole .u16 wr w.heap.size 23 (wds v n l)) := by
        have h := HW.out
        rw [HL.out.done] at h
        exact h
      by_cases hz : q = 0
      · have hb : (q != 0) = false := by rw [hz]; rfl
        have HZ : Hid (v / 2 ^ (16 * n) = 0) := by rw [← HQ.out]; exact hz
        clear hz
        go_wp2
        go_ret2
        exact ⟨fun _ => rfl, fun h => absurd HZ.out h, HW2.out, HB.out⟩
      · have hb : (q != 0) = true := by simpa using hz
        have HZ : Hid (v / 2 ^ (16 * n) ≠ 0) := by rw [← HQ.out]; exact hz
        clear hz
        go_wp2
        go_ret2
        exact ⟨fun h => absurd h HZ.out, fun _ => rfl, HW2.out, HB.out⟩

end Go.Proofs.Ytnnnaffhajljaaa

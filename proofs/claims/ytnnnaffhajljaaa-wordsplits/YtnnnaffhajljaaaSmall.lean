/- Contracts of Signed, Of, joins, place, Join and of the examples (awake). -/
import Derived.Test.YtnnnaffhajljaaaPut
import Derived.Test.YtnnnaffhajljaaaNum
namespace Go.Proofs.Ytnnnaffhajljaaa
open Go.RowKit
set_option linter.unusedVariables false

theorem ret_int {k : IntKind} {a b : Int} (h : a = b) : Ending.returned (.int k a) = .returned (.int k b) := by rw [h]
theorem ret_int2 {k : IntKind} {a b : Int} {c : Bool} (h : a = b) : Ending.returned (.tuple #[.int k a, .bool c]) = .returned (.tuple #[.int k b, .bool c]) := by rw [h]

theorem ret_bool {a b : Bool} (h : a = b) : Ending.returned (.bool a) = .returned (.bool b) := by rw [h]
theorem wf_u16 {a : Int} (h : (Lit.int .u16 a).wf = true) : 0 ≤ a ∧ a ≤ 65535 := by
  have := bounds_u16 h
  omega

/-- A word as a signed number. -/
def sgn (v : Int) : Int := if v < 32768 then v else v - 65536

theorem sgn_lo (v : Int) (h : v < 32768) : sgn v = v := if_pos h
theorem sgn_hi (v : Int) (h : 32768 ≤ v) : sgn v = v - 65536 := if_neg (by omega)

theorem signed_any (v : Int) (w : World) (h0 : 0 ≤ v) (h1 : v ≤ 65535) : Calls Try.prog 18 #[.int .u16 v] w fun e w' => e = .returned (.int .i64 (sgn v)) ∧ w = w' := by
  go_enter Try.func18, Try.ntmps18
  go_wp2
  go_ret
  refine ⟨ret_int ?_, rfl⟩
  have e : IntKind.i16.wrap v = sgn v := by
    rcases Int.lt_or_le v 32768 with h | h
    · rw [sgn_lo v h]; exact IntWalk.i16_in v (by omega)
    · have e1 : v % 65536 = v := by omega
      rw [sgn_hi v h]
      simp [IntKind.wrap, IntKind.signed, IntKind.bits, e1, h]
  rw [e]
  exact IntWalk.wrap64_in _ (by unfold sgn; split <;> omega)

theorem refsigned_any (v : Int) (w : World) (h0 : 0 ≤ v) (h1 : v ≤ 65535) : Calls Try.prog 19 #[.int .u16 v] w fun e w' => e = .returned (.int .i64 (sgn v)) ∧ w = w' := by
  by_cases h : v < 32768
  · have H := Lib.hid (sgn_lo v h)
    go_enter Try.func19, Try.ntmps19
    go_wp2
    go_ret
    exact ⟨ret_int H.out.symm, rfl⟩
  · have H := Lib.hid (sgn_hi v (by omega))
    go_enter Try.func19, Try.ntmps19
    go_wp2
    go_ret
    exact ⟨ret_int H.out.symm, rfl⟩

theorem of_in (n : Int) (w : World) (h0 : -32768 ≤ n) (h1 : n ≤ 65535) : Calls Try.prog 16 #[.int .i64 n] w fun e w' => e = .returned (.tuple #[.int .u16 (n % 65536), .bool true]) ∧ w = w' := by
  go_enter Try.func16, Try.ntmps16
  go_wp2
  go_ret2
  exact ⟨ret_int2 (by simp [IntKind.wrap, IntKind.signed, IntKind.bits]), rfl⟩

theorem of_out (n : Int) (w : World) (h : n < -32768 ∨ 65535 < n) : Calls Try.prog 16 #[.int .i64 n] w fun e w' => e = .returned (.tuple #[.int .u16 0, .bool false]) ∧ w = w' := by
  rcases h with h | h
  · go_enter Try.func16, Try.ntmps16
    go_wp2
    go_ret2
    exact ⟨rfl, rfl⟩
  · have h' : -32768 ≤ n := by omega
    go_enter Try.func16, Try.ntmps16
    go_wp2
    go_ret2
    exact ⟨rfl, rfl⟩

theorem refof_in (n : Int) (w : World) (h0 : -32768 ≤ n) (h1 : n ≤ 65535) : Calls Try.prog 17 #[.int .i64 n] w fun e w' => e = .returned (.tuple #[.int .u16 (n % 65536), .bool true]) ∧ w = w' := by
  by_cases h : 0 ≤ n
  · go_enter Try.func17, Try.ntmps17
    go_wp2
    go_ret2
    exact ⟨ret_int2 (by omega), rfl⟩
  · go_enter Try.func17, Try.ntmps17
    go_wp2
    go_ret2
    exact ⟨ret_int2 (by omega), rfl⟩

theorem refof_out (n : Int) (w : World) (h : n < -32768 ∨ 65535 < n) : Calls Try.prog 17 #[.int .i64 n] w fun e w' => e = .returned (.tuple #[.int .u16 0, .bool false]) ∧ w = w' := by
  rcases h with h | h
  · go_enter Try.func17, Try.ntmps17
    go_wp2
    go_ret2
    exact ⟨rfl, rfl⟩
  · have h' : 0 ≤ n := by omega
    go_enter Try.func17, Try.ntmps17
    go_wp2
    go_ret2
    exact ⟨rfl, rfl⟩

theorem joins_yes (n : Int) (w : World) (h0 : 1 ≤ n) (h1 : n ≤ 4) : Calls Try.prog 25 #[.int .i64 n] w fun e w' => e = .returned (.bool true) ∧ w = w' := by
  go_enter Try.func25, Try.ntmps25
  go_wp2
  go_ret
  exact ⟨rfl, rfl⟩

theorem joins_no (n : Int) (w : World) (h : n < 1 ∨ 4 < n) : Calls Try.prog 25 #[.int .i64 n] w fun e w' => e = .returned (.bool false) ∧ w = w' := by
  rcases h with h | h
  · have hd : decide (1 ≤ n) = false := by simpa using h
    go_enter Try.func25, Try.ntmps25
    go_wp2
    go_ret
    exact ⟨rfl, rfl⟩
  · have h' : 1 ≤ n := by omega
    have hd : decide (n ≤ 4) = false := by simpa using h
    go_enter Try.func25, Try.ntmps25
    go_wp2
    go_ret
    exact ⟨rfl, rfl⟩

theorem place_big (i n : Int) (w : World) : Calls Try.prog 26 #[.int .i64 i, .int .i64 n, .bool false] w fun e w' => e = .returned (.int .i64 i) ∧ w = w' := by
  go_enter Try.func26, Try.ntmps26
  go_wp2
  go_ret
  exact ⟨rfl, rfl⟩

theorem place_little (i n : Int) (w : World) (h0 : 0 ≤ i) (h1 : i < n) (h2 : n ≤ 1000) : Calls Try.prog 26 #[.int .i64 i, .int .i64 n, .bool true] w fun e w' => e = .returned (.int .i64 (n - 1 - i)) ∧ w = w' := by
  go_enter Try.func26, Try.ntmps26
  go_wp2
  go_ret
  exact ⟨rfl, rfl⟩

/-- Each a word. -/
def Words (zs : List Int) : Prop := ∀ x ∈ zs, 0 ≤ x ∧ x ≤ 65535
theorem Words.at_ {zs : List Int} (h : Words zs) (k : Nat) : 0 ≤ zs[k]?.getD 0 ∧ zs[k]?.getD 0 ≤ 65535 := by
  rcases hk : zs[k]? with _ | z
  · simp
  · simpa using h z (List.mem_of_getElem? hk)
theorem Words.num_lt {zs : List Int} (h : Words zs) (k : Nat) (hk : k ≤ 3) : 0 ≤ num (zs.take k) ∧ num (zs.take k) < 281474976710656 := by
  have h1 := num_bound (zs.take k).length (zs.take k) rfl (fun x hx => h x (List.mem_of_mem_take hx))
  have hl : (zs.take k).length ≤ 3 := Nat.le_trans (List.length_take_le _ _) hk
  have hp : (65536 : Int) ^ (zs.take k).length ≤ 281474976710656 := by
    generalize (zs.take k).length = m at hl
    match m, hl with
    | 0, _ => decide
    | 1, _ => decide
    | 2, _ => decide
    | 3, _ => decide
  omega
theorem Words.step {zs : List Int} (h : Words zs) (k : Nat) (hk : k ≤ 3) (hl : k < zs.length) :
    bits .or .u64 (IntKind.u64.wrap (num (zs.take k) * 65536)) (IntKind.u64.wrap (zs[k]?.getD 0)) = num (zs.take (k + 1)) := by
  have h1 := h.num_lt k hk
  have h2 := h.at_ k
  rw [or64 _ _ h1.1 h1.2 h2.1 h2.2, num_take _ _ hl]
  rfl
theorem Words.reverse {zs : List Int} (h : Words zs) : Words zs.reverse := fun x hx => h x (by simpa using hx)
theorem rev_at (zs : List Int) (n k : Nat) (h : zs.length = n) (hk : k < n) : zs.getD (n - 1 - k) 0 = zs.reverse[k]?.getD 0 := by
  subst h
  rw [List.getElem?_reverse (by omega)]
  rfl

theorem join_big (A : Option Addr) (n c : Nat) (zs : List Int) (w : World) (hr : Row .u16 w w.heap.size A n zs) (hx : Words zs) (hn1 : 1 ≤ n) (hn4 : n ≤ 4) :
    Calls Try.prog 23 #[.slice A n c, .bool false] w fun e w' => e = .returned (.tuple #[.int .u64 (num zs), .bool true]) ∧ w = w' := by
  obtain ⟨hl, hc⟩ := hr
  obtain ⟨b, off, rfl, hb, hcell⟩ := hc (by omega)
  have HL := Lib.hid hl
  have HX := Lib.hid hx
  have HCELL := Lib.hid hcell
  clear hl hc hx hcell
  go_enter Try.func23, Try.ntmps23
  go_wp2_with (first
    | (go_at_call 25; refine (joins_yes _ _ (by omega) (by omega)).mono ?_; rintro e w' ⟨rfl, rfl⟩))
  go_loop [6, 14] (fun v i => ∃ k : Nat, k ≤ n ∧ i = .int .i64 k ∧ v = .int .u64 (num (zs.take k))) (fun _ i => n - (intOf i).toNat)
  case atStart => exact ⟨0, Nat.zero_le _, rfl, rfl⟩
  case round =>
    obtain ⟨k, hk, rfl, rfl⟩ := hrel
    by_cases hlt : k < n
    · have hcl := HCELL.out k hlt
      go_wp2_with (first
        | (go_at_call 26; refine (place_big _ _ _).mono ?_; rintro e w' ⟨rfl, rfl⟩))
      go_round
      case rel => exact ⟨k + 1, by omega, by go_num, by rw [HX.out.step k (by omega) (by rw [HL.out]; exact hlt)]⟩
      case measure => simp [intOf]; omega
    · go_wp2
      go_ret2
      exact ⟨ret_int2 (by rw [List.take_of_length_le (by rw [HL.out]; omega)]), rfl⟩

theorem join_little (A : Option Addr) (n c : Nat) (zs : List Int) (w : World) (hr : Row .u16 w w.heap.size A n zs) (hx : Words zs) (hn1 : 1 ≤ n) (hn4 : n ≤ 4) :
    Calls Try.prog 23 #[.slice A n c, .bool true] w fun e w' => e = .returned (.tuple #[.int .u64 (num zs.reverse), .bool true]) ∧ w = w' := by
  obtain ⟨hl, hc⟩ := hr
  obtain ⟨b, off, rfl, hb, hcell⟩ := hc (by omega)
  have HX := Lib.hid hx.reverse
  have HL2 : Hid (zs.reverse.length = n) := by rw [List.length_reverse]; exact hl
  have hcell2 : ∀ k, k < n → w.cell? ⟨b, off + (n - 1 - k), none⟩ = some (.int .u16 (zs.reverse[k]?.getD 0)) := fun k hk => by
    rw [hcell _ (by omega), rev_at zs n k hl hk]
  have HCELL := Lib.hid hcell2
  clear hl hc hx hcell hcell2
  generalize zs.reverse = ys at HX HL2 HCELL ⊢
  go_enter Try.func23, Try.ntmps23
  go_wp2_with (first
    | (go_at_call 25; refine (joins_yes _ _ (by omega) (by omega)).mono ?_; rintro e w' ⟨rfl, rfl⟩))
  go_loop [6, 14] (fun v i => ∃ k : Nat, k ≤ n ∧ i = .int .i64 k ∧ v = .int .u64 (num (ys.take k))) (fun _ i => n - (intOf i).toNat)
  case atStart => exact ⟨0, Nat.zero_le _, rfl, rfl⟩
  case round =>
    obtain ⟨k, hk, rfl, rfl⟩ := hrel
    by_cases hlt : k < n
    · have hcl := HCELL.out k hlt
      go_wp2_with (first
        | (go_at_call 26; refine (place_little _ _ _ (by omega) (by omega) (by omega)).mono ?_; rintro e w' ⟨rfl, rfl⟩))
      go_round
      case rel => exact ⟨k + 1, by omega, by go_num, by rw [HX.out.step k (by omega) (by rw [HL2.out]; exact hlt)]⟩
      case measure => simp [intOf]; omega
    · go_wp2
      go_ret2
      exact ⟨ret_int2 (by rw [List.take_of_length_le (by rw [HL2.out]; omega)]), rfl⟩

theorem join_no (A : Option Addr) (n c : Nat) (l : Bool) (w : World) (hn : n = 0 ∨ 4 < n) (hm : n ≤ 100000) :
    Calls Try.prog 23 #[.slice A n c, .bool l] w fun e w' => e = .returned (.tuple #[.int .u64 0, .bool false]) ∧ w = w' := by
  have hn' : (n : Int) < 1 ∨ 4 < (n : Int) := by omega
  have HN := Lib.hid hn'
  clear hn hn'
  go_enter Try.func23, Try.ntmps23
  go_wp2_with (first
    | (go_at_call 25; refine (joins_no _ _ HN.out).mono ?_; rintro e w' ⟨rfl, rfl⟩))
  go_ret2
  exact ⟨rfl, rfl⟩

theorem join_example (w : World) : Calls Try.prog 23 #[.slice (some ⟨w.heap.size, 0, none⟩) 2 2, .bool true] (w.alloc (.cells #[.int .u16 1, .int .u16 2] 23)) fun e w' => e = .returned (.tuple #[.int .u64 131073, .bool true]) ∧ w.alloc (.cells #[.int .u16 1, .int .u16 2] 23) = w' := by
  have hw : Whole .u16 (w.alloc (.cells #[.int .u16 1, .int .u16 2] 23)) w.heap.size 23 [1, 2] := heap_alloc_new w _
  exact join_little _ 2 2 [1, 2] _ hw.row (by intro x hx; simp at hx; omega) (by omega) (by omega)

theorem sgn_example : sgn 65535 = -1 := by decide

theorem signed_example (w : World) : Calls Try.prog 18 #[.int .u16 65535] w fun e w' => e = .returned (.int .i64 (-1)) ∧ w = w' := by
  have h := signed_any 65535 w (by omega) (by omega)
  rwa [sgn_example] at h

theorem awake_any (w : World) : Calls Try.prog 9 #[] w fun e w' => e = .returned (.bool true) ∧ Below w.heap.size w w' := by
  go_enter Try.func9, Try.ntmps9
  go_wp2_with (first
    | (go_at_call 13
       refine (put_any _ _ _ [] _ _ (Row.nil _ _ _ _) (by omega) (by omega) (by omega)).mono ?_
       rintro e w1 ⟨rfl, hwh, hb1⟩
       have hc0 : w1.cell? ⟨w.heap.size, 0, none⟩ = some (.int .u8 1) := hwh.cell 0 (by simp)
       have hc1 : w1.cell? ⟨w.heap.size, 1, none⟩ = some (.int .u8 2) := hwh.cell 1 (by simp)
       have hz : w.heap.size < w1.heap.size := hwh.lt
       have HB := Lib.hid hb1
       clear hwh hb1)
    | (go_at_call 23; refine (join_example _).mono ?_; rintro e w' ⟨rfl, rfl⟩)
    | (go_at_call 18; refine (signed_example _).mono ?_; rintro e w' ⟨rfl, rfl⟩))
  go_ret
  exact ⟨rfl, HB.out.alloc (by omega) _⟩

end Go.Proofs.Ytnnnaffhajljaaa

/- Proved: for every slice of words, busbarlaw1.WordTurns returns true, and its argument reads as before. Conditions: none. -/
import Derived.Test.YtnnnaffhajljaaaFrame
namespace Go.Proofs.Ytnnnaffhajljaaa.wordTurns
open Go.ChangeShapes Go.WideShapes Go.ChangeAt Go.RowKit
open Go.ChangeMaps (open_string shut_string)
set_option linter.unusedVariables false



theorem own_ge {w : World} {base : Nat} {e : TypeId} {v : Value} {n : Nat} {xs : List Value} (h : w.ownsRow base e 1 v n xs) : ∀ g, v.ownBlock = some g → base ≤ g := by
  intro g hg
  rcases h.2 with ⟨rfl, _⟩ | ⟨g', cap, cur, rfl, hb, _⟩
  · simp [Value.ownBlock] at hg
  · have : g' = g := by simpa [Value.ownBlock] using hg
    omega

theorem own_slice {w : World} {base : Nat} {e : TypeId} {v : Value} {n : Nat} {xs : List Value} (h : w.ownsRow base e 1 v n xs) : ∃ A c, v = .slice A n c := by
  rcases h.2 with ⟨rfl, rfl⟩ | ⟨g', cap, cur, rfl, hb, _⟩
  · exact ⟨none, 0, rfl⟩
  · exact ⟨_, _, rfl⟩

theorem own_row {w : World} {base : Nat} {e : TypeId} {A : Option Addr} {n c : Nat} {k : IntKind} {zs : List Int} (h : w.ownsRow base e 1 (.slice A n c) n (zs.map (Value.int k))) : Row k w w.heap.size A n zs := by
  rcases Nat.eq_zero_or_pos n with h0 | h0
  · subst h0
    obtain rfl : zs = [] := List.eq_nil_of_length_eq_zero (by simpa using h.1)
    exact Row.nil _ _ _ _
  · obtain ⟨g, cap, e, _, hr⟩ := row_of_own h h0
    injection e with e1 e2 e3
    subst e1
    exact hr

theorem rev_take (zs : List Int) (n k : Nat) (hl : zs.length = n) (hk : k < n) : zs.reverse.take (k + 1) = zs.reverse.take k ++ [zs.getD (n - 1 - k) 0] := by
  have h : k < zs.reverse.length := by rw [List.length_reverse]; omega
  rw [List.take_succ_eq_append_getElem h, rev_at zs n k hl hk, List.getElem?_eq_getElem h]
  rfl

theorem join_turned (B : Option Addr) (n c : Nat) (zs : List Int) (w : World) (hr : Row .u16 w w.heap.size B n zs.reverse) (hx : Words zs) (hn1 : 1 ≤ n) (hn4 : n ≤ 4) :
    Calls Try.prog 23 #[.slice B n c, .bool true] w fun e w' => e = .returned (.tuple #[.int .u64 (num zs), .bool true]) ∧ w = w' := by
  have h := join_little B n c zs.reverse w hr hx.reverse hn1 hn4
  rwa [List.reverse_reverse] at h

theorem walk_long (a0 : Option Addr) (len0 cap0 : Nat) (w : World) (hlen : 40 < len0) :
    Calls Try.prog 7 #[.slice a0 len0 cap0] w fun e w' => e = .returned (.bool true) ∧ Below w.heap.size w w' := by
  go_enter Try.func7, Try.ntmps7
  go_wp2_with (go_at_call 9; refine (awake_any _).mono ?_; rintro e w1 ⟨rfl, hb⟩; have HB := Lib.hid hb; clear hb)
  go_ret
  exact ⟨rfl, HB.out⟩

set_option maxHeartbeats 1000000 in
theorem walk_short (A : Option Addr) (n c : Nat) (zs : List Int) (w : World) (hr : Row .u16 w w.heap.size A n zs) (hx : Words zs) (hn : n ≤ 40) :
    Calls Try.prog 7 #[.slice A n c] w fun e w' => e = .returned (.bool true) ∧ Below w.heap.size w w' := by
  obtain ⟨i0, hi0, hz0, hz1, hz2⟩ := info_parts info23
  have HZ : Hid ((Value.int .u16 0).cells.size = 1) := rfl
  have HI0 := Lib.hid hi0
  have HZ0 := Lib.hid hz0
  have HZ1 := Lib.hid hz1
  have HZ2 := Lib.hid hz2
  have HR := Lib.hid hr
  have HX := Lib.hid hx
  have HN := Lib.hid hr.1
  clear hr hx hi0 hz0 hz1 hz2
  go_enter Try.func7, Try.ntmps7
  go_wp2_with (go_at_call 9; refine (awake_any _).mono ?_; rintro e w1 ⟨rfl, hb⟩; have HB1 := Lib.hid hb; clear hb)
  go_loopw [3, 4] (fun b i wr => ∃ (k : Nat) (B : Option Addr) (cb : Nat), k ≤ n ∧ i = .int .i64 ((n : Int) - 1 - k) ∧ b = .slice B k cb ∧ Hid (wr.ownsRow w.heap.size 23 1 (.slice B k cb) k ((zs.reverse.take k).map (Value.int .u16))) ∧ Hid (Below w.heap.size w wr)) (fun _ i _ => (intOf i + 1).toNat)
  case atStart => exact ⟨0, none, 0, by omega, by simp, rfl, ⟨by simp, .inl ⟨rfl, rfl⟩⟩, HB1⟩
  case round =>
    obtain ⟨k, B, cb, hk, rfl, rfl, HK, HB⟩ := hrel
    by_cases hlt : k < n
    · obtain ⟨b, off, rfl, hb, hcell⟩ := HR.out.2 (by omega)
      obtain ⟨z, hz⟩ : ∃ z, zs.getD (n - 1 - k) 0 = z := ⟨_, rfl⟩
      have hcl : wr.cell? ⟨b, off + (n - 1 - k), none⟩ = some (.int .u16 z) := by rw [HB.out.cell hb, hcell _ (by omega), hz]
      have HT : Hid (zs.reverse.take (k + 1) = zs.reverse.take k ++ [z]) := by rw [← hz]; exact rev_take zs n k HN.out hlt
      have hi1 : 0 ≤ (n : Int) - 1 - k := by omega
      have hi2 : (n : Int) - 1 - k < n := by omega
      have hw : Whole .u16 (wr.alloc (.cells #[.int .u16 z] 23)) wr.heap.size 23 [z] := heap_alloc_new wr _
      have HW := Lib.hid hw.row
      have HO1 := Lib.hid (HK.out.alloc (o := .cells #[.int .u16 z] 23))
      clear hcell hz hw
      go_wp2_with (at_builtin
                   refine wpList_append_row _ (o := ⟨some 30, _, _, _, _, _⟩) rfl (.tmp 24) (.tmp 29) 35 rfl w.heap.size 23 i0 _ 2 Try.underlying35 HI0.out HZ0.out HZ1.out HZ2.out HZ.out (.slice B k cb) k ((zs.reverse.take k).map (Value.int .u16)) rfl HO1.out .u16 _ (some ⟨wr.heap.size, 0, none⟩) 1 1 [z] rfl HW.out (by simp only [maxLen]; omega) (by omega) (by have := HB.out.size; simp; omega) ?_
                   intro v2 w2 hown2 hg2 hat2
                   obtain ⟨B2, c2, rfl⟩ := own_slice hown2
                   have HO2 := Lib.hid hown2
                   have HB2 := Lib.hid ((HB.out.alloc HB.out.size _).grown hg2 (by have := HB.out.size; simp; omega) (own_ge HO1.out))
                   clear hown2 hg2 hat2)
      go_roundw
      case rel =>
        refine ⟨k + 1, B2, c2, by omega, by go_num, rfl, ?_, HB2⟩
        have h := HO2.out
        rw [← List.map_append, ← HT.out] at h
        exact h
      case measure => simp [intOf]; omega
    · obtain rfl : n = k := by omega
      have HK2 : Hid (Row .u16 wr wr.heap.size B n zs.reverse) := by
        have h := own_row HK.out
        rw [List.take_of_length_le (by rw [List.length_reverse, HN.out]; omega)] at h
        exact h
      have HR2 := Lib.hid ((HR.out.below HB.out).more HB.out.size)
      clear HK HR
      rcases Nat.lt_or_ge 4 n with h4 | h4
      · have HO : Hid (n = 0 ∨ 4 < n) := .inr h4
        have hd : decide ((n : Int) ≤ 4) = false := by simp; omega
        have hd2 : decide (1 ≤ (n : Int)) = true := by simp; omega
        go_wp2_with (go_at_call 23; refine (join_no _ _ _ _ _ HO.out (by omega)).mono ?_; rintro e w2 ⟨rfl, rfl⟩)
        go_ret
        exact ⟨rfl, HB.out⟩
      · rcases Nat.eq_zero_or_pos n with h0 | h0
        · have HO : Hid (n = 0 ∨ 4 < n) := .inl h0
          have hd : decide (1 ≤ (n : Int)) = false := by simp; omega
          have hlt1 : (n : Int) < 1 := by omega
          clear h0
          go_wp2_with (go_at_call 23; refine (join_no _ _ _ _ _ HO.out (by omega)).mono ?_; rintro e w2 ⟨rfl, rfl⟩)
          go_ret
          exact ⟨rfl, HB.out⟩
        · have h1 : 1 ≤ n := h0
          have hg1 : 1 ≤ (n : Int) := by omega
          have hg4 : (n : Int) ≤ 4 := by omega
          go_wp2_with (first
            | (go_at_call 23; (with_reducible refine (join_big A n c zs _ HR2.out HX.out h1 h4).mono ?_); rintro e w2 ⟨rfl, rfl⟩)
            | (go_at_call 23; (with_reducible refine (join_turned B n cb zs _ HK2.out HX.out h1 h4).mono ?_); rintro e w2 ⟨rfl, rfl⟩))
          go_ret
          exact ⟨rfl, HB.out⟩

theorem walk (a0 : Option Addr) (len0 cap0 : Nat) (z0 : List Int) (w : World) (w0 : IsRow .u16 w a0 len0 cap0 z0) :
    Calls Try.prog 7 #[.slice a0 len0 cap0] w fun e w' => e = .returned (.bool true) ∧ Below w.heap.size w w' := by
  rcases Nat.lt_or_ge 40 len0 with h | h
  · exact walk_long a0 len0 cap0 w h
  · exact walk_short a0 len0 cap0 _ w w0.row w0.words h

/-! ### THE ROW's STEP: WRITTEN OUT: LEAVE IT -/
set_option maxRecDepth 100000 in
theorem lifted (os : Os) (started : os.Started) (H : Type) (enc : TypeId × Value → H) :
    ReturnsInHanded {} Try.checked os 7 .any (Rows.wordTurnsSpec.pre6 enc Try.prog Try.f7 Rows.wordTurnsRow.domain false) (Rows.wordTurnsSpec.post enc Try.prog Try.f7 false true false false) := by
  refine returnsInHanded_of_change (C := Try.checked) own started (by kernel_rfl) Try.func7
    (ChangeSpec.witness6 (enc := enc) (C := Try.checked) false ⟨#[], #[.slice none 0 0], []⟩ 8 (by kernel_rfl) (by kernel_rfl) (by kernel_rfl) (by kernel_rfl)) ?_
  intro W base args ds gs before hval0 hW hcnd _
  have hval : ∀ (j : Nat) t v, Try.f7.params[j]? = some t → args[j]? = some v → Value.okWide Try.prog W .any base t v := hval0
  have hW' := hW
  obtain ⟨p, q, hA0, hV, rfl, hfz, hnd⟩ := hW
  have hA : DataW.TrodAll enc Try.prog W 0 (fun _ => true) true Try.f7.params.toList args.toList ds p := hA0
  rw [Try.params7] at hA hval
  obtain ⟨v0, vs0, d0, ds0, p0, q0, hargs, rfl, rfl, h0, r0⟩ := trodAll_cons hA
  obtain ⟨rfl, rfl, rfl⟩ := trodAll_nil r0
  obtain rfl : args = #[v0] := by cases args; simp_all
  obtain ⟨rfl, rfl⟩ := trodVars_none hV
  obtain ⟨a0, len0, cap0, rfl⟩ := okWide_slice Try.underlying35 (hval 0 35 v0 rfl rfl)
  have k0 := h0
  have lt0 : ∀ x ∈ p0, x.block < W.heap.size := by obtain ⟨m, hm⟩ := k0; exact DataW.trod_lt m _ _ _ hm
  obtain ⟨z0, w0⟩ : ∃ zs, IsRow .u16 W a0 len0 cap0 zs := by
    obtain ⟨fuel, hf⟩ := h0
    rcases open_ints Try.underlying35 Try.underlying23 (by kernel_rfl) hf with ⟨hcs, _⟩ | ⟨x, l, c, zs, hcs, _, hl, hm, hz, _, hcell, hwz⟩
    · simp [Value.cells] at hcs
      obtain ⟨rfl, rfl, rfl⟩ := hcs
      exact ⟨[], .inl ⟨rfl, rfl, rfl, rfl⟩⟩
    · simp [Value.cells] at hcs
      obtain ⟨rfl, rfl, rfl⟩ := hcs
      exact ⟨zs, .inr ⟨_, rfl, hl, hm, by simpa using hz, hcell, hwz⟩⟩
  clear hA0 hval0
  refine (walk a0 len0 cap0 z0 W w0).mono fun e W' ⟨he, bel⟩ => ?_
  subst he
  exact ⟨_, rfl, _, _, _, [], _, [], hW', trodAll_mk1 (shut_bool Try.underlying4 _), (trodAll_cons_mk (Below.trod laidOut (by kernel_rfl) (of_decide_eq_true (by kernel_rfl)) k0 bel lt0) trodAll_mk0), rfl, bel.frame _, fun h => by cases h⟩

theorem over : Rows.wordTurnsRow.holds Try.pinned (OpenSpec.ofChange Rows.wordTurnsSpec) :=
  OpenClaim.holds_of_wide 7 Try.f7 rfl rfl rfl rfl rfl rfl rfl ⟨rfl, rfl, rfl, rfl, rfl⟩ rfl rfl rfl rfl rfl (by kernel_rfl) Try.func7 (by kernel_rfl)
    (of_decide_eq_true (by kernel_rfl)) (by unfold Func.isWrapper; first | (rw [if_pos (by decide +kernel)]; kernel_rfl) | (rw [if_neg (by decide +kernel)]; exact ⟨rfl, rfl⟩))
    (fun os started H enc _ => lifted os started H enc)

/-- ████ THE STATEMENT ████ -/
theorem proved : Rows.WordTurnsSaid := over
#print axioms proved
end Go.Proofs.Ytnnnaffhajljaaa.wordTurns

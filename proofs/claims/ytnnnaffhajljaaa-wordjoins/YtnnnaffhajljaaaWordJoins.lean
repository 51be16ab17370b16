/- Proved: for every slice of words and either order, busbarlaw1.WordJoins returns true, and its arguments read as before. Conditions: none. -/
import Derived.Test.YtnnnaffhajljaaaSame
namespace Go.Proofs.Ytnnnaffhajljaaa.wordJoins
open Go.ChangeShapes Go.WideShapes Go.ChangeAt Go.RowKit
open Go.ChangeMaps (open_string shut_string)
set_option linter.unusedVariables false



/-- The number of words in the order l. -/
def val (l : Bool) (zs : List Int) : Int := num (if l then zs.reverse else zs)

theorem join_yes (l : Bool) (A : Option Addr) (n c : Nat) (zs : List Int) (w : World) (hr : Row .u16 w w.heap.size A n zs) (hx : Words zs) (hn1 : 1 ≤ n) (hn4 : n ≤ 4) :
    Calls Try.prog 23 #[.slice A n c, .bool l] w fun e w' => e = .returned (.tuple #[.int .u64 (val l zs), .bool true]) ∧ w = w' := by
  cases l
  · exact join_big A n c zs w hr hx hn1 hn4
  · exact join_little A n c zs w hr hx hn1 hn4

theorem refjoin_val (l : Bool) (A : Option Addr) (n c : Nat) (zs : List Int) (w : World) (hr : Row .u16 w w.heap.size A n zs) (hx : Words zs) (hn1 : 1 ≤ n) (hn4 : n ≤ 4) :
    Calls Try.prog 24 #[.slice A n c, .bool l] w fun e w' => e = .returned (.tuple #[.int .u64 (val l zs), .bool true]) ∧ w = w' := refjoin_yes l A n c zs w hr hx hn1 hn4

theorem num_range (n : Nat) (zs : List Int) (hl : zs.length = n) (hx : Words zs) (hn4 : n ≤ 4) : 0 ≤ num zs ∧ num zs < 18446744073709551616 := by
  have h := num_bound n zs hl hx
  have hp : (65536 : Int) ^ n ≤ 18446744073709551616 := by
    match n, hn4 with
    | 0, _ => decide
    | 1, _ => decide
    | 2, _ => decide
    | 3, _ => decide
    | 4, _ => decide
  omega

theorem split_val (l : Bool) (n : Nat) (zs : List Int) (w : World) (hl : zs.length = n) (hx : Words zs) (hn1 : 1 ≤ n) (hn4 : n ≤ 4) :
    Calls Try.prog 20 #[.int .u64 (val l zs), .int .i64 (n : Int), .bool l] w fun e w' => e = .returned (.tuple #[.slice (some ⟨w.heap.size, 0, none⟩) n n, .bool true]) ∧ Row .u16 w' w'.heap.size (some ⟨w.heap.size, 0, none⟩) n zs ∧ Below w.heap.size w w' := by
  have hl2 : zs.reverse.length = n := by rw [List.length_reverse]; exact hl
  have he : wds (val l zs) n l = zs := by
    cases l
    · exact wds_num n zs hl hx
    · exact wds_num_little n zs hl hx
  have hf : val l zs / 2 ^ (16 * n) = 0 := by
    cases l
    · exact num_fits n zs hl hx
    · exact num_fits n zs.reverse hl2 hx.reverse
  have hb : 0 ≤ val l zs ∧ val l zs < 18446744073709551616 := by
    cases l
    · exact num_range n zs hl hx hn4
    · exact num_range n zs.reverse hl2 hx.reverse hn4
  refine (split_yes (val l zs) n l w hb.1 hb.2 hn1 hn4 hf).mono fun e w' ⟨he', hw, hbel⟩ => ⟨he', ?_, hbel⟩
  rw [he] at hw
  have := hw.row
  rw [hl] at this
  exact this

theorem walk_long (a0 : Option Addr) (len0 cap0 : Nat) (l : Bool) (w : World) (hlen : 40 < len0) :
    Calls Try.prog 6 #[.slice a0 len0 cap0, .bool l] w fun e w' => e = .returned (.bool true) ∧ Below w.heap.size w w' := by
  go_enter Try.func6, Try.ntmps6
  go_wp2_with (go_at_call 9; refine (awake_any _).mono ?_; rintro e w1 ⟨rfl, hb⟩; have HB := Lib.hid hb; clear hb)
  go_ret
  exact ⟨rfl, HB.out⟩

theorem walk_no (A : Option Addr) (n c : Nat) (l : Bool) (w : World) (h : n = 0 ∨ 4 < n) (hn : n ≤ 40) :
    Calls Try.prog 6 #[.slice A n c, .bool l] w fun e w' => e = .returned (.bool true) ∧ Below w.heap.size w w' := by
  have H := Lib.hid h
  have H2 : Hid ((n : Int) < 1 ∨ 4 < (n : Int)) := by show _ ∨ _; omega
  clear h
  go_enter Try.func6, Try.ntmps6
  go_wp2_with (first
    | (go_at_call 9; refine (awake_any _).mono ?_; rintro e w1 ⟨rfl, hb⟩; have HB := Lib.hid hb; clear hb)
    | (go_at_call 23; refine (join_no _ _ _ _ _ H.out (by omega)).mono ?_; rintro e w2 ⟨rfl, rfl⟩)
    | (go_at_call 24; refine (refjoin_no _ _ _ _ _ H.out (by omega)).mono ?_; rintro e w2 ⟨rfl, rfl⟩)
    | (go_at_call 20; refine (split_out _ _ _ _ H2.out).mono ?_; rintro e w2 ⟨rfl, rfl⟩))
  go_ret
  exact ⟨rfl, HB.out⟩

theorem walk_yes (A : Option Addr) (n c : Nat) (l : Bool) (zs : List Int) (w : World) (hr : Row .u16 w w.heap.size A n zs) (hx : Words zs) (hn1 : 1 ≤ n) (hn4 : n ≤ 4) :
    Calls Try.prog 6 #[.slice A n c, .bool l] w fun e w' => e = .returned (.bool true) ∧ Below w.heap.size w w' := by
  have HR := Lib.hid hr
  have HX := Lib.hid hx
  have HN := Lib.hid hr.1
  clear hr hx
  go_enter Try.func6, Try.ntmps6
  go_wp2_with (first
    | (go_at_call 9
       refine (awake_any _).mono ?_
       rintro e w1 ⟨rfl, hb⟩
       have HR1 := Lib.hid ((HR.out.below hb).more hb.size)
       have HB := Lib.hid hb
       clear hb)
    | (go_at_call 23; refine (join_yes l A n c zs _ HR1.out HX.out hn1 hn4).mono ?_; rintro e w2 ⟨rfl, rfl⟩)
    | (go_at_call 24; refine (refjoin_val l A n c zs _ HR1.out HX.out hn1 hn4).mono ?_; rintro e w2 ⟨rfl, rfl⟩)
    | (go_at_call 20
       refine (split_val l n zs _ HN.out HX.out hn1 hn4).mono ?_
       rintro e w2 ⟨rfl, hs, hb⟩
       have HS := Lib.hid hs
       have HR2 := Lib.hid ((HR1.out.below hb).more hb.size)
       have HB2 := Lib.hid (HB.out.trans (hb.mono HB.out.size))
       clear hs hb)
    | (go_at_call 22; refine (same_yes _ _ n n c zs _ HS.out HR2.out (by omega)).mono ?_; rintro e w4 ⟨rfl, d, rfl⟩))
  go_ret
  exact ⟨rfl, below_drewN HB2.out _⟩

theorem walk (a0 : Option Addr) (len0 cap0 : Nat) (z0 : List Int) (a1 : Bool) (w : World) (w0 : IsRow .u16 w a0 len0 cap0 z0) :
    Calls Try.prog 6 #[.slice a0 len0 cap0, .bool a1] w fun e w' => e = .returned (.bool true) ∧ Below w.heap.size w w' := by
  rcases Nat.lt_or_ge 40 len0 with h | h
  · exact walk_long a0 len0 cap0 a1 w h
  · by_cases hn : len0 = 0 ∨ 4 < len0
    · exact walk_no a0 len0 cap0 a1 w hn h
    · exact walk_yes a0 len0 cap0 a1 _ w w0.row w0.words (by omega) (by omega)

/-! ### THE ROW's STEP: WRITTEN OUT: LEAVE IT -/
set_option maxRecDepth 100000 in
theorem lifted (os : Os) (started : os.Started) (H : Type) (enc : TypeId × Value → H) :
    ReturnsInHanded {} Try.checked os 6 .any (Rows.wordJoinsSpec.pre6 enc Try.prog Try.f6 Rows.wordJoinsRow.domain false) (Rows.wordJoinsSpec.post enc Try.prog Try.f6 false true false false) := by
  refine returnsInHanded_of_change (C := Try.checked) own started (by kernel_rfl) Try.func6
    (ChangeSpec.witness6 (enc := enc) (C := Try.checked) false ⟨#[], #[.slice none 0 0, .bool false], []⟩ 8 (by kernel_rfl) (by kernel_rfl) (by kernel_rfl) (by kernel_rfl)) ?_
  intro W base args ds gs before hval0 hW hcnd _
  have hval : ∀ (j : Nat) t v, Try.f6.params[j]? = some t → args[j]? = some v → Value.okWide Try.prog W .any base t v := hval0
  have hW' := hW
  obtain ⟨p, q, hA0, hV, rfl, hfz, hnd⟩ := hW
  have hA : DataW.TrodAll enc Try.prog W 0 (fun _ => true) true Try.f6.params.toList args.toList ds p := hA0
  rw [Try.params6] at hA hval
  obtain ⟨v0, vs0, d0, ds0, p0, q0, hargs, rfl, rfl, h0, r0⟩ := trodAll_cons hA
  obtain ⟨v1, vs1, d1, ds1, p1, q1, rfl, rfl, rfl, h1, r1⟩ := trodAll_cons r0
  obtain ⟨rfl, rfl, rfl⟩ := trodAll_nil r1
  obtain rfl : args = #[v0, v1] := by cases args; simp_all
  obtain ⟨rfl, rfl⟩ := trodVars_none hV
  obtain ⟨a0, len0, cap0, rfl⟩ := okWide_slice Try.underlying35 (hval 0 35 v0 rfl rfl)
  have k0 := h0
  have lt0 : ∀ x ∈ p0, x.block < W.heap.size := by obtain ⟨m, hm⟩ := k0; exact DataW.trod_lt m _ _ _ hm
  obtain ⟨z0, w0⟩ : ∃ zs, IsRow .u16 W a0 len0 cap0 zs := by
    obtain ⟨fuel, hf⟩ := h0
    rcases open_ints Try.underlying35 Try.underlying23 (by kernel_rfl) hf with ⟨hcs, _⟩ | ⟨x, l, c, zs, hcs, _, hl, hm, hz, _, hcell, hwz⟩
    · simp [Value.cells] at hcs
      obtain ⟨rfl, rfl, rfl⟩ := hcs
      exact ⟨[], .inl ⟨rfl, rfl, rfl, rfl⟩⟩
    · simp [Value.cells] at hcs
      obtain ⟨rfl, rfl, rfl⟩ := hcs
      exact ⟨zs, .inr ⟨_, rfl, hl, hm, by simpa using hz, hcell, hwz⟩⟩
  obtain ⟨a1, rfl, rfl, rfl⟩ := open_bool Try.underlying4 (hval 1 4 v1 rfl rfl) h1
  clear hA0 hval0
  refine (walk a0 len0 cap0 z0 a1 W w0).mono fun e W' ⟨he, bel⟩ => ?_
  subst he
  exact ⟨_, rfl, _, _, _, [], _, [], hW', trodAll_mk1 (shut_bool Try.underlying4 _), (trodAll_cons_mk (Below.trod laidOut (by kernel_rfl) (of_decide_eq_true (by kernel_rfl)) k0 bel lt0) (trodAll_cons_mk (shut_bool Try.underlying4 _) trodAll_mk0)), rfl, bel.frame _, fun h => by cases h⟩

theorem over : Rows.wordJoinsRow.holds Try.pinned (OpenSpec.ofChange Rows.wordJoinsSpec) :=
  OpenClaim.holds_of_wide 6 Try.f6 rfl rfl rfl rfl rfl rfl rfl ⟨rfl, rfl, rfl, rfl, rfl⟩ rfl rfl rfl rfl rfl (by kernel_rfl) Try.func6 (by kernel_rfl)
    (of_decide_eq_true (by kernel_rfl)) (by unfold Func.isWrapper; first | (rw [if_pos (by decide +kernel)]; kernel_rfl) | (rw [if_neg (by decide +kernel)]; exact ⟨rfl, rfl⟩))
    (fun os started H enc _ => lifted os started H enc)

/-- ████ THE STATEMENT ████ -/
theorem proved : Rows.WordJoinsSaid := over
#print axioms proved
end Go.Proofs.Ytnnnaffhajljaaa.wordJoins

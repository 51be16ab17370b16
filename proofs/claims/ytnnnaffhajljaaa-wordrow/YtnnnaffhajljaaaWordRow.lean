/- Proved: for every slice of words, busbarlaw1.WordRow returns true, and its argument reads as before. Conditions: none. -/
import Derived.Test.YtnnnaffhajljaaaFrame
namespace Go.Proofs.Ytnnnaffhajljaaa.wordRow
open Go.ChangeShapes Go.WideShapes Go.ChangeAt Go.RowKit
open Go.ChangeMaps (open_string shut_string)
set_option linter.unusedVariables false



/-- The bytes of words, one behind the other. -/
def flat (zs : List Int) : List Int := zs.flatMap fun v => [v / 256, v % 256]
theorem flat_snoc (zs : List Int) (v : Int) : flat (zs ++ [v]) = flat zs ++ [v / 256, v % 256] := by simp [flat]
theorem flat_length (zs : List Int) : (flat zs).length = 2 * zs.length := by
  induction zs with
  | nil => rfl
  | cons z zs ih => simp [flat] at ih ⊢; omega
theorem flat_take (zs : List Int) (k : Nat) (h : k < zs.length) : flat (zs.take (k + 1)) = flat (zs.take k) ++ [zs[k]?.getD 0 / 256, zs[k]?.getD 0 % 256] := by
  rw [List.take_succ_eq_append_getElem h, flat_snoc]
  simp [h]
theorem flat_bytes {zs : List Int} (h : Words zs) : Bytes8 (flat zs) := by
  intro x hx
  simp only [flat, List.mem_flatMap] at hx
  obtain ⟨v, hv, hx⟩ := hx
  have := h v hv
  simp at hx
  omega
theorem flat_append (a b : List Int) : flat (a ++ b) = flat a ++ flat b := by simp [flat]
theorem flat_at (zs : List Int) (k : Nat) (h : k < zs.length) (h0 : Words zs) : wordAt (flat zs) (2 * k) = zs[k]?.getD 0 := by
  have h2 : zs = zs.take k ++ ([zs[k]] ++ zs.drop (k + 1)) := by simp
  have e : flat zs = flat (zs.take k) ++ ([zs[k] / 256, zs[k] % 256] ++ flat (zs.drop (k + 1))) := by
    have h3 := congrArg flat h2
    rw [flat_append, flat_append] at h3
    exact h3
  have hl : (flat (zs.take k)).length = 2 * k := by rw [flat_length, List.length_take]; omega
  have hz := h0 zs[k] (List.getElem_mem h)
  unfold wordAt
  rw [e]
  have n1 : ¬ 2 * k < 2 * k := by omega
  have n2 : ¬ 2 * k + 1 < 2 * k := by omega
  have n3 : 2 * k + 1 - 2 * k = 1 := by omega
  simp only [List.getD, List.getElem?_append, hl, n1, n2, n3, if_false]
  simp [h]
  omega

theorem get_row (B : Option Addr) (n c k : Nat) (zs : List Int) (w W : World) (d : Nat) (hW : W = w.drewN d) (hr : Row .u8 w w.heap.size B (2 * n) (flat zs)) (hx : Words zs) (hl : zs.length = n) (hk : k < n) (hn : n ≤ 1000) :
    Calls Try.prog 11 #[.slice B (2 * n) c, .int .i64 (2 * (k : Int))] W (Quiet (.tuple #[.int .u16 (zs[k]?.getD 0), .bool true]) W) := by
  subst hW
  refine (get_yes B (2 * n) c (flat zs) (2 * k) _ (hr.drewN d) (flat_bytes hx) (by omega) (by omega)).mono fun e w' ⟨he, hd⟩ => ⟨?_, hd⟩
  rw [he, flat_at zs k (by omega) hx]

theorem walk_long (a0 : Option Addr) (len0 cap0 : Nat) (w : World) (hlen : 100 < len0) :
    Calls Try.prog 8 #[.slice a0 len0 cap0] w fun e w' => e = .returned (.bool true) ∧ Below w.heap.size w w' := by
  go_enter Try.func8, Try.ntmps8
  go_wp2_with (go_at_call 9; refine (awake_any _).mono ?_; rintro e w1 ⟨rfl, hb⟩; have HB := Lib.hid hb; clear hb)
  go_ret
  exact ⟨rfl, HB.out⟩

set_option maxHeartbeats 1000000 in
theorem walk_short (A : Option Addr) (n c : Nat) (zs : List Int) (w : World) (hr : Row .u16 w w.heap.size A n zs) (hx : Words zs) (hn : n ≤ 100) :
    Calls Try.prog 8 #[.slice A n c] w fun e w' => e = .returned (.bool true) ∧ Below w.heap.size w w' := by
  have HR := Lib.hid hr
  have HX := Lib.hid hx
  have HN := Lib.hid hr.1
  clear hr hx
  go_enter Try.func8, Try.ntmps8
  go_wp2_with (go_at_call 9; refine (awake_any _).mono ?_; rintro e w1 ⟨rfl, hb⟩; have HB1 := Lib.hid hb; clear hb)
  go_loopw [3, 4] (fun b i wr => ∃ (k : Nat) (B : Option Addr), k ≤ n ∧ i = .int .i64 (k : Int) ∧ b = .slice B (2 * k) (2 * k) ∧ Hid (Row .u8 wr wr.heap.size B (2 * k) (flat (zs.take k))) ∧ Hid (Below w.heap.size w wr)) (fun _ i _ => n - (intOf i).toNat)
  case atStart => exact ⟨0, none, by omega, rfl, rfl, Row.nil _ _ _ _, HB1⟩
  case round =>
    obtain ⟨k, B, hk, rfl, rfl, HK, HB⟩ := hrel
    by_cases hlt : k < n
    · obtain ⟨b, off, rfl, hb, hcell⟩ := HR.out.2 (by omega)
      have hcl : wr.cell? ⟨b, off + k, none⟩ = some (.int .u16 (zs[k]?.getD 0)) := (HB.out.cell hb).trans (hcell k hlt)
      have hbd := HX.out.at_ k
      have hi1 : (k : Int) < (n : Int) := by omega
      clear hcell
      go_wp2_with (go_at_call 13; (with_reducible refine (put_any _ (2 * k) (2 * k) _ _ _ HK.out hbd.1 hbd.2 (by omega)).mono ?_); rintro e w2 ⟨rfl, hw, hb2⟩; have HW := Lib.hid hw; have HB2 := Lib.hid hb2; clear hw hb2)
      go_roundw
      case rel =>
        refine ⟨k + 1, some ⟨wr.heap.size, 0, none⟩, by omega, by go_num, rfl, ?_, HB.out.trans (HB2.out.mono HB.out.size)⟩
        have h := HW.out.row
        rw [← flat_take zs k (by rw [HN.out]; exact hlt)] at h
        have e : (flat (zs.take (k + 1))).length = 2 * (k + 1) := by rw [flat_length, List.length_take, HN.out]; omega
        rw [e] at h
        exact h
      case measure => simp [intOf]; omega
    · obtain rfl : n = k := by omega
      have HK2 : Hid (Row .u8 wr wr.heap.size B (2 * n) (flat zs)) := by
        have h := HK.out
        rw [List.take_of_length_le (by rw [HN.out]; omega)] at h
        exact h
      have HR2 := Lib.hid ((HR.out.below HB.out).more HB.out.size)
      clear HK HR
      go_wp2
      go_loopw [5] (fun i wq => ∃ (k d : Nat), k ≤ n ∧ i = .int .i64 (k : Int) ∧ wq = wr.drewN d) (fun i _ => n - (intOf i).toNat)
      case atStart => exact ⟨0, 0, by omega, rfl, rfl⟩
      case round =>
        obtain ⟨k, d, hk, rfl, rfl⟩ := hrel
        by_cases hlt : k < n
        · obtain ⟨b, off, rfl, hb, hcell⟩ := HR2.out.2 (by omega)
          have hcl : wr.cell? ⟨b, off + k, none⟩ = some (.int .u16 (zs[k]?.getD 0)) := hcell k hlt
          have hi1 : (k : Int) < (n : Int) := by omega
          clear hcell
          go_wp2_with (go_at_call 11; (with_reducible refine (get_row B n (2 * n) k zs wr _ d rfl HK2.out HX.out HN.out hlt (by omega)).mono ?_); rintro e w2 ⟨rfl, d2, rfl⟩)
          go_roundw
          case rel => exact ⟨k + 1, _, by omega, by go_num, rfl⟩
          case measure => simp [intOf]; omega
        · have hno : Hid ((2 * (n : Int)) < 0 ∨ ((2 * n : Nat) : Int) - 1 ≤ 2 * (n : Int)) := .inr (by omega)
          go_wp2_with (go_at_call 11; (with_reducible refine (get_no B (2 * n) (2 * n) (2 * (n : Int)) _ hno.out (by omega)).mono ?_); rintro e w2 ⟨rfl, rfl⟩)
          go_ret
          exact ⟨rfl, below_drewN HB.out _⟩

theorem walk (a0 : Option Addr) (len0 cap0 : Nat) (z0 : List Int) (w : World) (w0 : IsRow .u16 w a0 len0 cap0 z0) :
    Calls Try.prog 8 #[.slice a0 len0 cap0] w fun e w' => e = .returned (.bool true) ∧ Below w.heap.size w w' := by
  rcases Nat.lt_or_ge 100 len0 with h | h
  · exact walk_long a0 len0 cap0 w h
  · exact walk_short a0 len0 cap0 _ w w0.row w0.words h

/-! ### THE ROW's STEP: WRITTEN OUT: LEAVE IT -/
set_option maxRecDepth 100000 in
theorem lifted (os : Os) (started : os.Started) (H : Type) (enc : TypeId × Value → H) :
    ReturnsInHanded {} Try.checked os 8 .any (Rows.wordRowSpec.pre6 enc Try.prog Try.f8 Rows.wordRowRow.domain false) (Rows.wordRowSpec.post enc Try.prog Try.f8 false true false false) := by
  refine returnsInHanded_of_change (C := Try.checked) own started (by kernel_rfl) Try.func8
    (ChangeSpec.witness6 (enc := enc) (C := Try.checked) false ⟨#[], #[.slice none 0 0], []⟩ 8 (by kernel_rfl) (by kernel_rfl) (by kernel_rfl) (by kernel_rfl)) ?_
  intro W base args ds gs before hval0 hW hcnd _
  have hval : ∀ (j : Nat) t v, Try.f8.params[j]? = some t → args[j]? = some v → Value.okWide Try.prog W .any base t v := hval0
  have hW' := hW
  obtain ⟨p, q, hA0, hV, rfl, hfz, hnd⟩ := hW
  have hA : DataW.TrodAll enc Try.prog W 0 (fun _ => true) true Try.f8.params.toList args.toList ds p := hA0
  rw [Try.params8] at hA hval
  obtain ⟨v0, vs0, d0, ds0, p0, q0, hargs, rfl, rfl, h0, r0⟩ := trodAll_cons hA
  obtain ⟨rfl, rfl, rfl⟩ := trodAll_nil r0
  obtain rfl : args = #[v0] := by cases args; simp_all
  obtain ⟨rfl, rfl⟩ := trodVars_none hV
  obtain ⟨a0, len0, cap0, rfl⟩ := okWide_slice Try.underlying35 (hval 0 35 v0 rfl rfl)
  have k0 := h0
  have lt0 : ∀ x ∈ p0, x.block < W.heap.size := by obtain ⟨m, hm⟩ := k0; exact DataW.trod_lt m _ _ _ hm
  obtain ⟨z0, w0⟩ : ∃ zs, IsRow .u16 W a0 len0 cap0 zs := by
    obtain ⟨fuel, hf⟩ := h0
    rcases open_ints Try.underlying35 Try.underlying23 (by kernel_rfl) hf with ⟨hcs, _⟩ | ⟨x, l, c, zs, hcs, _, hl, hm, hz, _, hcell, hwz⟩
    · simp [Value.cells] at hcs
      obtain ⟨rfl, rfl, rfl⟩ := hcs
      exact ⟨[], .inl ⟨rfl, rfl, rfl, rfl⟩⟩
    · simp [Value.cells] at hcs
      obtain ⟨rfl, rfl, rfl⟩ := hcs
      exact ⟨zs, .inr ⟨_, rfl, hl, hm, by simpa using hz, hcell, hwz⟩⟩
  clear hA0 hval0
  refine (walk a0 len0 cap0 z0 W w0).mono fun e W' ⟨he, bel⟩ => ?_
  subst he
  exact ⟨_, rfl, _, _, _, [], _, [], hW', trodAll_mk1 (shut_bool Try.underlying4 _), (trodAll_cons_mk (Below.trod laidOut (by kernel_rfl) (of_decide_eq_true (by kernel_rfl)) k0 bel lt0) trodAll_mk0), rfl, bel.frame _, fun h => by cases h⟩

theorem over : Rows.wordRowRow.holds Try.pinned (OpenSpec.ofChange Rows.wordRowSpec) :=
  OpenClaim.holds_of_wide 8 Try.f8 rfl rfl rfl rfl rfl rfl rfl ⟨rfl, rfl, rfl, rfl, rfl⟩ rfl rfl rfl rfl rfl (by kernel_rfl) Try.func8 (by kernel_rfl)
    (of_decide_eq_true (by kernel_rfl)) (by unfold Func.isWrapper; first | (rw [if_pos (by decide +kernel)]; kernel_rfl) | (rw [if_neg (by decide +kernel)]; exact ⟨rfl, rfl⟩))
    (fun os started H enc _ => lifted os started H enc)

/-- ████ THE STATEMENT ████ -/
theorem proved : Rows.WordRowSaid := over
#print axioms proved
end Go.Proofs.Ytnnnaffhajljaaa.wordRow

/- Proved: for every slice of bools and every byte, busbarlaw2.BitsSpare returns true, and its argument reads as before. Conditions: none. -/
import Derived.Test.YthcehfofifdmbaaSets
namespace Go.Proofs.Ythcehfofifdmbaa.bitsSpare
open Go.ChangeShapes Go.WideShapes Go.ChangeAt Go.RowKit
open Go.ChangeMaps (open_string shut_string)
set_option linter.unusedVariables false


theorem walk_long (a0 : Option Addr) (len0 cap0 : Nat) (x : Int) (w : World) (hlen : len0 = 0 ∨ 100 < len0) :
    Calls Try.prog 6 #[.slice a0 len0 cap0, .int .u8 x] w fun e w' => e = .returned (.bool true) ∧ Below w.heap.size w w' := by
  rcases hlen with rfl | hlen
  · go_enter Try.func6, Try.ntmps6
    go_wp2_with (go_at_call 8; refine (awake_any _).mono ?_; rintro e w1 ⟨rfl, hb⟩; have HB := Lib.hid hb; clear hb)
    go_ret
    exact ⟨rfl, HB.out⟩
  · go_enter Try.func6, Try.ntmps6
    go_wp2_with (go_at_call 8; refine (awake_any _).mono ?_; rintro e w1 ⟨rfl, hb⟩; have HB := Lib.hid hb; clear hb)
    go_ret
    exact ⟨rfl, HB.out⟩

/-- Bytes whose first n bits are bs, and none is set from k on. -/
def Spare (bs : List Bool) (n k : Nat) (zs : List Int) : Prop := Bytes8 zs ∧ (∀ i, i < n → bitB zs i = bs[i]?.getD false) ∧ ∀ i, k ≤ i → bitB zs i = false
theorem Spare.start (bs : List Bool) (n : Nat) (h : bs.length = n) : Spare bs n n (pk bs n) := by
  subst h
  exact ⟨pk_bytes _ _, fun i _ => pk_all bs i, fun i hi => by rw [pk_all, List.getElem?_eq_none hi]; rfl⟩
theorem Spare.skip {bs : List Bool} {n k : Nat} {zs : List Int} (h : Spare bs n k zs) : Spare bs n (k + 1) zs := ⟨h.1, h.2.1, fun i hi => h.2.2 i (by omega)⟩
theorem Spare.set_ {bs : List Bool} {n k m : Nat} {zs : List Int} (h : Spare bs n k zs) (hk : n ≤ k) (hl : zs.length = m) (hm : k / 8 < m) : Spare bs n (k + 1) (setI zs m (k : Int) true) := by
  rw [setI_in _ _ _ _ hm]
  refine ⟨setB_bytes h.1 _ _, fun i hi => ?_, fun i hi => ?_⟩
  · rw [bitB_setB h.1 _ _ (by omega), if_neg (by omega)]; exact h.2.1 i hi
  · rw [bitB_setB h.1 _ _ (by omega), if_neg (by omega)]; exact h.2.2 i (by omega)
theorem Spare.get {bs : List Bool} {n k : Nat} {zs : List Int} (h : Spare bs n k zs) : bitI zs (k : Int) = false := by rw [bitI_nat]; exact h.2.2 k (Nat.le_refl _)
theorem Spare.unb {bs : List Bool} {n k : Nat} {zs : List Int} (h : Spare bs n k zs) (hl : bs.length = n) : unb zs n = bs := by
  subst hl
  exact unb_eq zs bs h.2.1

set_option maxHeartbeats 1000000 in
theorem walk_short (A : Option Addr) (n c : Nat) (bs : List Bool) (x : Int) (w : World) (hr : BRow w w.heap.size A n bs) (hn1 : 1 ≤ n) (hn : n ≤ 100) (hx0 : 0 ≤ x) (hx1 : x ≤ 255) :
    Calls Try.prog 6 #[.slice A n c, .int .u8 x] w fun e w' => e = .returned (.bool true) ∧ Below w.heap.size w w' := by
  have HR := Lib.hid hr
  have HN := Lib.hid hr.1
  have hne : decide (n = 0) = false := by simp; omega
  have hne2 : ((n : Int) == 0) = false := by simp; omega
  have hnb : nb n ≤ 100 := by have := nb_le n; omega
  have HNB : Hid (∀ k, k < 8 * nb n ↔ k / 8 < nb n) := Lib.hid (fun k => by omega)
  have HLE : Hid (n ≤ 8 * nb n) := Lib.hid (by unfold nb; omega)
  clear hr
  go_enter Try.func6, Try.ntmps6
  go_wp2_with (first
    | (go_at_call 8
       refine (awake_any _).mono ?_
       rintro e w1 ⟨rfl, hb⟩
       have HB1 := Lib.hid hb
       have HR1 := Lib.hid ((HR.out.below hb).more hb.size)
       clear hb)
    | (go_at_call 10
       refine (pack_all _ n c bs _ HR1.out (by omega)).mono ?_
       rintro e w2 ⟨rfl, hp, hb⟩
       have HP2 := Lib.hid hp
       have HB2 := Lib.hid (HB1.out.trans (hb.mono HB1.out.size))
       clear hp hb)
    | (go_at_call 17
       refine (bytes_nat n _ (by omega)).mono ?_
       rintro e w3 ⟨rfl, rfl⟩))
  go_loopw [5, 6] (fun b i wr => ∃ (k g cb : Nat) (zs : List Int), n ≤ k ∧ k ≤ 8 * nb n ∧ i = .int .i64 (k : Int) ∧ b = .slice (some ⟨g, 0, none⟩) (nb n) cb ∧ Hid (Row .u8 wr wr.heap.size (some ⟨g, 0, none⟩) (nb n) zs) ∧ Hid (Spare bs n k zs) ∧ Hid (Below w.heap.size w wr)) (fun _ i _ => 8 * nb n - (intOf i).toNat)
  case atStart => exact ⟨n, _, _, _, by omega, HLE.out, rfl, rfl, HP2, Spare.start _ _ HN.out, HB2⟩
  case round =>
    obtain ⟨k, g, cb, zs, hk0, hk, rfl, rfl, HZ, HS, HB⟩ := hrel
    by_cases hlt : k < 8 * nb n
    · have hi1 : (k : Int) < 8 * ((nb n : Nat) : Int) := by omega
      rcases hq : (bits .and .u8 (x / 2 ^ (k % 8)) 1 == 1) with _ | _
      · go_wp2_with (first
          | (go_at_call 23
             refine (get_any _ (nb n) cb zs (k : Int) _ HZ.out HS.out.1 (by omega) (by omega) (by omega)).mono ?_
             rintro e w4 ⟨rfl, d4, rfl⟩
             rw [HS.out.get]))
        go_roundw
        case rel => exact ⟨k + 1, _, _, _, by omega, by omega, by go_num, rfl, HZ, HS.out.skip, below_drewN HB.out _⟩
        case measure => simp [intOf]; omega
      · go_wp2_with (first
          | (go_at_call 23
             refine (get_any _ (nb n) cb zs (k : Int) _ HZ.out HS.out.1 (by omega) (by omega) (by omega)).mono ?_
             rintro e w4 ⟨rfl, d4, rfl⟩
             rw [HS.out.get])
          | (go_at_call 21
             refine (set_all _ (nb n) cb zs (k : Int) true _ (HZ.out.drewN d4) HS.out.1 (by omega) (by omega) (by omega)).mono ?_
             rintro e w5 ⟨rfl, hp, hb⟩
             have HP5 := Lib.hid hp
             have HB5 := Lib.hid ((below_drewN HB.out d4).trans (hb.mono HB.out.size))
             clear hp hb))
        go_roundw
        case rel => exact ⟨k + 1, _, _, _, by omega, by omega, by go_num, rfl, HP5, HS.out.set_ (by omega) HZ.out.1 ((HNB.out k).1 hlt), HB5⟩
        case measure => simp [intOf]; omega
    · have HR5 := Lib.hid ((HR.out.below HB.out).more HB.out.size)
      have HU : Hid (unb zs n = bs) := Lib.hid (HS.out.unb HN.out)
      go_wp2_with (first
        | (go_at_call 11
           refine (unpack_all _ n _ zs _ HZ.out HS.out.1 (by omega)).mono ?_
           rintro e w6 ⟨rfl, hp, hb⟩
           rw [HU.out] at hp
           have HP6 := Lib.hid hp
           have HR6 := Lib.hid ((HR5.out.below hb).more hb.size)
           have HB6 := Lib.hid (HB.out.trans (hb.mono HB.out.size))
           clear hp hb)
        | (go_at_call 13
           refine (samebits_yes _ _ n _ _ bs _ HP6.out HR6.out (by omega)).mono ?_
           rintro e w7 ⟨rfl, d7, rfl⟩))
      go_ret
      exact ⟨rfl, below_drewN HB6.out _⟩

theorem walk (a0 : Option Addr) (len0 cap0 : Nat) (z0 : List Bool) (a1 : Int) (w : World) (w0 : IsBools w a0 len0 cap0 z0) (w1 : (Lit.int .u8 a1).wf = true) :
    Calls Try.prog 6 #[.slice a0 len0 cap0, .int .u8 a1] w fun e w' => e = .returned (.bool true) ∧ Below w.heap.size w w' := by
  have hb := bounds_u8 w1
  by_cases h : len0 = 0 ∨ 100 < len0
  · exact walk_long a0 len0 cap0 a1 w h
  · exact walk_short a0 len0 cap0 _ a1 w w0.row (by omega) (by omega) (by omega) (by omega)

/-! ### THE ROW's STEP: WRITTEN OUT: LEAVE IT -/
set_option maxRecDepth 100000 in
theorem lifted (os : Os) (started : os.Started) (H : Type) (enc : TypeId × Value → H) :
    ReturnsInHanded {} Try.checked os 6 .any (Rows.bitsSpareSpec.pre6 enc Try.prog Try.f6 Rows.bitsSpareRow.domain false) (Rows.bitsSpareSpec.post enc Try.prog Try.f6 false true false false) := by
  refine returnsInHanded_of_change (C := Try.checked) own started (by kernel_rfl) Try.func6
    (ChangeSpec.witness6 (enc := enc) (C := Try.checked) false ⟨#[], #[.slice none 0 0, .int .u8 0], []⟩ 8 (by kernel_rfl) (by kernel_rfl) (by kernel_rfl) (by kernel_rfl)) ?_
  intro W base args ds gs before hval0 hW hcnd _
  have hval : ∀ (j : Nat) t v, Try.f6.params[j]? = some t → args[j]? = some v → Value.okWide Try.prog W .any base t v := hval0
  have hW' := hW
  obtain ⟨p, q, hA0, hV, rfl, hfz, hnd⟩ := hW
  have hA : DataW.TrodAll enc Try.prog W 0 (fun _ => true) true Try.f6.params.toList args.toList ds p := hA0
  rw [Try.params6] at hA hval
  obtain ⟨v0, vs0, d0, ds0, p0, q0, hargs, rfl, rfl, h0, r0⟩ := trodAll_cons hA
  obtain ⟨v1, vs1, d1, ds1, p1, q1, rfl, rfl, rfl, h1, r1⟩ := trodAll_cons r0
  obtain ⟨rfl, rfl, rfl⟩ := trodAll_nil r1
  obtain rfl : args = #[v0, v1] := by cases args; simp_all
  obtain ⟨rfl, rfl⟩ := trodVars_none hV
  obtain ⟨a0, len0, cap0, rfl⟩ := okWide_slice Try.underlying22 (hval 0 22 v0 rfl rfl)
  have k0 := h0
  have lt0 : ∀ x ∈ p0, x.block < W.heap.size := by obtain ⟨m, hm⟩ := k0; exact DataW.trod_lt m _ _ _ hm
  obtain ⟨z0, w0⟩ : ∃ bs, IsBools W a0 len0 cap0 bs := by
    obtain ⟨fuel, hf⟩ := h0
    rcases Go.Deep.open_bools Try.underlying22 Try.underlying4 (by kernel_rfl) hf with ⟨hcs, _⟩ | ⟨x, l, c, B, hcs, _, hl, hm, _, hcell⟩
    · simp [Value.cells] at hcs
      obtain ⟨rfl, rfl, rfl⟩ := hcs
      exact ⟨[], .inl ⟨rfl, rfl, rfl, rfl⟩⟩
    · simp [Value.cells] at hcs
      obtain ⟨rfl, rfl, rfl⟩ := hcs
      exact isBools_mk B hl hm hcell
  obtain ⟨a1, rfl, rfl, rfl, w1⟩ := open_int Try.underlying5 (hval 1 5 v1 rfl rfl) h1
  clear hA0 hval0
  refine (walk a0 len0 cap0 z0 a1 W w0 w1).mono fun e W' ⟨he, bel⟩ => ?_
  subst he
  exact ⟨_, rfl, _, _, _, [], _, [], hW', trodAll_mk1 (shut_bool Try.underlying4 _), (trodAll_cons_mk (Below.trod laidOut (by kernel_rfl) (of_decide_eq_true (by kernel_rfl)) k0 bel lt0) (trodAll_cons_mk (shut_int Try.underlying5 w1) trodAll_mk0)), rfl, bel.frame _, fun h => by cases h⟩

theorem over : Rows.bitsSpareRow.holds Try.pinned (OpenSpec.ofChange Rows.bitsSpareSpec) :=
  OpenClaim.holds_of_wide 6 Try.f6 rfl rfl rfl rfl rfl rfl rfl ⟨rfl, rfl, rfl, rfl, rfl⟩ rfl rfl rfl rfl rfl (by kernel_rfl) Try.func6 (by kernel_rfl)
    (of_decide_eq_true (by kernel_rfl)) (by unfold Func.isWrapper; first | (rw [if_pos (by decide +kernel)]; kernel_rfl) | (rw [if_neg (by decide +kernel)]; exact ⟨rfl, rfl⟩))
    (fun os started H enc _ => lifted os started H enc)

/-- ████ THE STATEMENT ████ -/
theorem proved : Rows.BitsSpareSaid := over
#print axioms proved
end Go.Proofs.Ythcehfofifdmbaa.bitsSpare

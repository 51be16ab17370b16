/- Proved: for every reply of any numbers, bits, words and objects, busbarlaw6.TellTells returns true, and its argument reads as before. Conditions: none. -/
import Derived.Test.YtcmnhpogepahgaaLTT
import Derived.Test.YtcmnhpogepahgaaJTellTells1
namespace Go.Proofs.Ytcmnhpogepahgaa.tellTells
open Go.ChangeShapes Go.WideShapes Go.ChangeAt Go.RowKit
open Go.ChangeMaps (open_string shut_string)
set_option linter.unusedVariables false
set_option linter.unusedSimpArgs false

set_option maxRecDepth 100000 in
set_option maxHeartbeats 1000000 in
theorem ltt_many (fn ex : Int) (bl wl : Nat) (at_ q v an orr co le : Int) (mo : Bool) (nx : Int) (ol : Nat) (os : List Ob) (BA WA OA : Option Addr) (bc wc oc : Nat) (w : World)
    (hlo : OL w w.heap.size OA ol os) (hol : ol ≤ maxLen) (hz : ∀ o ∈ os, o.2.size ≤ maxLen) (hf : ¬ few6P bl wl ol os) :
    Calls Try.prog 3 #[.agg #[.int .i64 fn, .int .i64 ex, .slice BA bl bc, .slice WA wl wc, .int .i64 at_, .int .i64 q, .int .u16 v, .int .u16 an, .int .u16 orr, .int .i64 co, .int .i64 le, .bool mo, .int .i64 nx, .slice OA ol oc]] w fun e w' => e = .returned (.bool true) ∧ Below w.heap.size w w' := by
  have CF := Lib.hid (fun W (hW : Below w.heap.size w W) => few6_any fn ex bl wl at_ q v an orr co le mo nx ol BA WA OA bc wc oc os W false (hlo.below hW) hol hz ⟨fun h => (by cases h), fun h => absurd h hf⟩)
  clear hlo hol hz hf
  go_enter Try.func3, Try.ntmps3
  go_wp2_with (first
    | (go_at_call 10
       (with_reducible refine (CF.out _ ((Below.refl _ _).alloc (Nat.le_refl _) _)).mono ?_)
       rintro e w1 ⟨rfl, hb1⟩
       have HB1 : Hid (Below w.heap.size w w1) := ((Below.refl _ _).alloc (Nat.le_refl _) _).trans (hb1.mono (by simp))
       clear hb1)
    | (go_at_call 11
       refine (awake_any _).mono ?_
       rintro e w2 ⟨rfl, hb2⟩
       have HB2 := Lib.hid (HB1.out.trans (hb2.mono HB1.out.size))
       clear hb2))
  go_ret
  exact ⟨rfl, HB2.out⟩

theorem words_of {W : World} {A : Option Addr} {l c : Nat} {zs : List Int} (h : IsRow .u16 W A l c zs) : Words (zs.take l) := fun u hu => bounds_u16 (h.wf u hu)

theorem walk (fn ex at_ q v an orr co le nx : Int) (BA WA : Option Addr) (bl bc wl wc : Nat) (bs : List Bool) (ws : List Int) (mo : Bool) (OA : Option Addr) (ol oc : Nat) (os : List Ob) (w : World)
    (hwf : (Lit.int .i64 fn).wf = true ∧ (Lit.int .i64 ex).wf = true ∧ (Lit.int .i64 at_).wf = true ∧ (Lit.int .i64 q).wf = true ∧ (Lit.int .u16 v).wf = true ∧ (Lit.int .u16 an).wf = true ∧ (Lit.int .u16 orr).wf = true ∧ (Lit.int .i64 co).wf = true ∧ (Lit.int .i64 le).wf = true ∧ (Lit.int .i64 nx).wf = true)
    (hb : IsBools w BA bl bc bs) (hw : IsRow .u16 w WA wl wc ws) (ho : IsObjs w OA ol oc os) :
    Calls Try.prog 3 #[.agg #[.int .i64 fn, .int .i64 ex, .slice BA bl bc, .slice WA wl wc, .int .i64 at_, .int .i64 q, .int .u16 v, .int .u16 an, .int .u16 orr, .int .i64 co, .int .i64 le, .bool mo, .int .i64 nx, .slice OA ol oc]] w fun e w' => e = .returned (.bool true) ∧ Below w.heap.size w w' := by
  obtain ⟨f0, f1, f2, f3, f4, f5, f6, f7, f8, f9⟩ := hwf
  obtain ⟨o1, o2, o3, o4⟩ := ho
  by_cases hf : few6P bl wl ol os
  · exact ltt_in fn ex bl wl at_ q v an orr co le mo nx ol _ _ os BA WA OA bc wc oc w ⟨(bounds_i64 f2).1, (bounds_i64 f2).2, (bounds_i64 f3).1, (bounds_i64 f3).2, (bounds_u16 f4).1, (bounds_u16 f4).2, (bounds_u16 f5).1, (bounds_u16 f5).2, (bounds_u16 f6).1, (bounds_u16 f6).2, (bounds_i64 f7).1, (bounds_i64 f7).2, (bounds_i64 f8).1, (bounds_i64 f8).2, (bounds_i64 f9).1, (bounds_i64 f9).2⟩ hb.row hw.row (words_of hw) o1 hf
  · exact ltt_many fn ex bl wl at_ q v an orr co le mo nx ol os BA WA OA bc wc oc w o1 o3 (fun o h => (o4 o h).2) hf

set_option maxRecDepth 100000 in
theorem lifted (os : Os) (started : os.Started) (H : Type) (enc : TypeId × Value → H) :
    ReturnsInHanded {} Try.checked os 3 .any (Rows.tellTellsSpec.pre6 enc Try.prog Try.f3 Rows.tellTellsRow.domain false) (Rows.tellTellsSpec.post enc Try.prog Try.f3 false true false false) := by
  refine returnsInHanded_of_change (C := Try.checked) own started (by kernel_rfl) Try.func3
    (ChangeSpec.witness6 (enc := enc) (C := Try.checked) false ⟨#[], #[.agg #[.int .i64 0, .int .i64 0, .slice none 0 0, .slice none 0 0, .int .i64 0, .int .i64 0, .int .u16 0, .int .u16 0, .int .u16 0, .int .i64 0, .int .i64 0, .bool false, .int .i64 0, .slice none 0 0]], []⟩ 8 (by kernel_rfl) (by kernel_rfl) (by kernel_rfl) (by kernel_rfl)) ?_
  intro W base args ds gs before hval0 hW hcnd _
  have hval : ∀ (j : Nat) t v, Try.f3.params[j]? = some t → args[j]? = some v → Value.okWide Try.prog W .any base t v := hval0
  have hW' := hW
  obtain ⟨p, q, hA0, hV, rfl, hfz, hnd⟩ := hW
  have hA : DataW.TrodAll enc Try.prog W 0 (fun _ => true) true Try.f3.params.toList args.toList ds p := hA0
  rw [Try.params3] at hA hval
  obtain ⟨v0, vs0, d0, ds0, p0, q0, hargs, rfl, rfl, h0, r0⟩ := trodAll_cons hA
  obtain ⟨rfl, rfl, rfl⟩ := trodAll_nil r0
  obtain rfl : args = #[v0] := by cases args; simp_all
  obtain ⟨rfl, rfl⟩ := trodVars_none hV
  have k0 := h0
  have lt0 : ∀ x ∈ p0, x.block < W.heap.size := by obtain ⟨m, hm⟩ := k0; exact DataW.trod_lt m _ _ _ hm
  obtain ⟨fn, ex, at_, q, v, an, orr, co, le, nx, BA, WA, bl, bc, wl, wc, bs, ws, mo, OA, ol, oc, os, rfl, hwf, hb, hw, ho⟩ := open_tell (hval 0 27 v0 rfl rfl) h0
  clear hA0 hval0
  refine (walk fn ex at_ q v an orr co le nx BA WA bl bc wl wc bs ws mo OA ol oc os W hwf hb hw ho).mono fun e W' ⟨he, bel⟩ => ?_
  subst he
  exact ⟨_, rfl, _, _, _, [], _, [], hW', trodAll_mk1 (shut_bool Try.underlying4 _), (trodAll_cons_mk (Below.trod laidOut (by kernel_rfl) (of_decide_eq_true (by kernel_rfl)) k0 bel lt0) trodAll_mk0), rfl, bel.frame _, fun h => by cases h⟩

theorem over : Rows.tellTellsRow.holds Try.pinned (OpenSpec.ofChange Rows.tellTellsSpec) :=
  OpenClaim.holds_of_wide 3 Try.f3 rfl rfl rfl rfl rfl rfl rfl ⟨rfl, rfl, rfl, rfl, rfl⟩ rfl rfl rfl rfl rfl (by kernel_rfl) Try.func3 (by kernel_rfl)
    (of_decide_eq_true (by kernel_rfl)) (by unfold Func.isWrapper; first | (rw [if_pos (by decide +kernel)]; kernel_rfl) | (rw [if_neg (by decide +kernel)]; exact ⟨rfl, rfl⟩))
    (fun os started H enc _ => lifted os started H enc)

theorem proved : Rows.TellTellsSaid := over
#print axioms proved
end Go.Proofs.Ytcmnhpogepahgaa.tellTells

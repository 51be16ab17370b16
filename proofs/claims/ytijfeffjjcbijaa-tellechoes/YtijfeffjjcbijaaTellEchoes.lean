/- Proved: for every request of any numbers, bits and words, and every two numbers, busbarlaw6.TellEchoes returns true, and its arguments read as before. Conditions: none. -/
import Derived.Test.YtijfeffjjcbijaaJTellEchoesQ3
namespace Go.Proofs.Ytijfeffjjcbijaa.tellEchoes
open Go.ChangeShapes Go.WideShapes Go.ChangeAt Go.RowKit
open Go.ChangeMaps (open_string shut_string)
set_option linter.unusedVariables false

theorem walk (fn at_ n y an orr ra rn co ob : Int) (BA WA : Option Addr) (bl bc wl wc : Nat) (bs : List Bool) (ws : List Int) (k v : Int) (w : World) (hwf : (Lit.int .i64 fn).wf = true ∧ (Lit.int .i64 at_).wf = true ∧ (Lit.int .i64 n).wf = true ∧ (Lit.int .u16 y).wf = true ∧ (Lit.int .u16 an).wf = true ∧ (Lit.int .u16 orr).wf = true ∧ (Lit.int .i64 ra).wf = true ∧ (Lit.int .i64 rn).wf = true ∧ (Lit.int .i64 co).wf = true ∧ (Lit.int .i64 ob).wf = true) (hb : IsBools w BA bl bc bs) (hw : IsRow .u16 w WA wl wc ws) (w1 : (Lit.int .i64 k).wf = true) (w2 : (Lit.int .i64 v).wf = true) :
    Calls Try.prog 14 #[.agg #[.int .i64 fn, .int .i64 at_, .int .i64 n, .int .u16 y, .int .u16 an, .int .u16 orr, .slice BA bl bc, .slice WA wl wc, .int .i64 ra, .int .i64 rn, .int .i64 co, .int .i64 ob], .int .i64 k, .int .i64 v] w fun e w' => e = .returned (.bool true) ∧ Below w.heap.size w w' := by
  obtain ⟨f0, f1, f2, f3, f4, f5, f6, f7, f8, f9⟩ := hwf
  have hwd : Wide at_ n y an orr ra rn co ob := ⟨(bounds_i64 f1).1, (bounds_i64 f1).2, (bounds_i64 f2).1, (bounds_i64 f2).2, (bounds_u16 f3).1, (bounds_u16 f3).2, (bounds_u16 f4).1, (bounds_u16 f4).2, (bounds_u16 f5).1, (bounds_u16 f5).2, (bounds_i64 f6).1, (bounds_i64 f6).2, (bounds_i64 f7).1, (bounds_i64 f7).2, (bounds_i64 f8).1, (bounds_i64 f8).2, (bounds_i64 f9).1, (bounds_i64 f9).2⟩
  obtain ⟨k0, k1⟩ := bounds_i64 w1
  obtain ⟨v0, v1⟩ := bounds_i64 w2
  by_cases hf : bl ≤ 2100 ∧ wl ≤ 200
  · exact techo_few fn at_ n y an orr bs ws ra rn co ob BA WA bl wl bc wc k v w hwd k0 k1 v0 v1 hf
  · exact techo_many fn at_ n y an orr bs ws ra rn co ob BA WA bl wl bc wc k v w hwd k0 k1 v0 v1 hf

set_option maxRecDepth 100000 in
theorem lifted (os : Os) (started : os.Started) (H : Type) (enc : TypeId × Value → H) :
    ReturnsInHanded {} Try.checked os 14 .any (Rows.tellEchoesSpec.pre6 enc Try.prog Try.f14 Rows.tellEchoesRow.domain false) (Rows.tellEchoesSpec.post enc Try.prog Try.f14 false true false false) := by
  refine returnsInHanded_of_change (C := Try.checked) own started (by kernel_rfl) Try.func14
    (ChangeSpec.witness6 (enc := enc) (C := Try.checked) false ⟨#[], #[.agg #[.int .i64 0, .int .i64 0, .int .i64 0, .int .u16 0, .int .u16 0, .int .u16 0, .slice none 0 0, .slice none 0 0, .int .i64 0, .int .i64 0, .int .i64 0, .int .i64 0], .int .i64 0, .int .i64 0], []⟩ 8 (by kernel_rfl) (by kernel_rfl) (by kernel_rfl) (by kernel_rfl)) ?_
  intro W base args ds gs before hval0 hW hcnd _
  have hval : ∀ (j : Nat) t v, Try.f14.params[j]? = some t → args[j]? = some v → Value.okWide Try.prog W .any base t v := hval0
  have hW' := hW
  obtain ⟨p, q, hA0, hV, rfl, hfz, hnd⟩ := hW
  have hA : DataW.TrodAll enc Try.prog W 0 (fun _ => true) true Try.f14.params.toList args.toList ds p := hA0
  rw [Try.params14] at hA hval
  obtain ⟨v0, vs0, d0, ds0, p0, q0, hargs, rfl, rfl, h0, r0⟩ := trodAll_cons hA
  obtain ⟨v1, vs1, d1, ds1, p1, q1, rfl, rfl, rfl, h1, r1⟩ := trodAll_cons r0
  obtain ⟨v2, vs2, d2, ds2, p2, q2, rfl, rfl, rfl, h2, r2⟩ := trodAll_cons r1
  obtain ⟨rfl, rfl, rfl⟩ := trodAll_nil r2
  obtain rfl : args = #[v0, v1, v2] := by cases args; simp_all
  obtain ⟨rfl, rfl⟩ := trodVars_none hV
  have k0 := h0
  have lt0 : ∀ x ∈ p0, x.block < W.heap.size := by obtain ⟨m, hm⟩ := k0; exact DataW.trod_lt m _ _ _ hm
  obtain ⟨fn, at_, n, y, an, orr, ra, rn, co, ob, BA, WA, bl, bc, wl, wc, bs, ws, rfl, hwf, hb, hw⟩ := open_ask (hval 0 26 v0 rfl rfl) h0
  obtain ⟨a1, rfl, rfl, rfl, w1⟩ := open_int Try.underlying3 (hval 1 3 v1 rfl rfl) h1
  obtain ⟨a2, rfl, rfl, rfl, w2⟩ := open_int Try.underlying3 (hval 2 3 v2 rfl rfl) h2
  clear hA0 hval0
  refine (walk fn at_ n y an orr ra rn co ob BA WA bl bc wl wc bs ws a1 a2 W hwf hb hw w1 w2).mono fun e W' ⟨he, bel⟩ => ?_
  subst he
  exact ⟨_, rfl, _, _, _, [], _, [], hW', trodAll_mk1 (shut_bool Try.underlying4 _), (trodAll_cons_mk (Below.trod laidOut (by kernel_rfl) (of_decide_eq_true (by kernel_rfl)) k0 bel lt0) (trodAll_cons_mk (shut_int Try.underlying3 w1) (trodAll_cons_mk (shut_int Try.underlying3 w2) trodAll_mk0))), rfl, bel.frame _, fun h => by cases h⟩

theorem over : Rows.tellEchoesRow.holds Try.pinned (OpenSpec.ofChange Rows.tellEchoesSpec) :=
  OpenClaim.holds_of_wide 14 Try.f14 rfl rfl rfl rfl rfl rfl rfl ⟨rfl, rfl, rfl, rfl, rfl⟩ rfl rfl rfl rfl rfl (by kernel_rfl) Try.func14 (by kernel_rfl)
    (of_decide_eq_true (by kernel_rfl)) (by unfold Func.isWrapper; first | (rw [if_pos (by decide +kernel)]; kernel_rfl) | (rw [if_neg (by decide +kernel)]; exact ⟨rfl, rfl⟩))
    (fun os started H enc _ => lifted os started H enc)

theorem proved : Rows.TellEchoesSaid := over
#print axioms proved
end Go.Proofs.Ytijfeffjjcbijaa.tellEchoes

/- An argument that is an api.Ask, opened to its cells: numbers of their types, a slice of bools, one of words. -/
import Derived.Test.YtijfeffjjcbijaaGen
import Derived.Deep.Fields
namespace Go.Proofs.Ytijfeffjjcbijaa
open Go.ChangeShapes Go.WideShapes Go.ChangeAt Go.RowKit Go.Deep
set_option linter.unusedVariables false
set_option linter.unusedSimpArgs false

set_option maxRecDepth 100000 in
theorem open_ask {H : Type} {enc : TypeId × Value → H} {W : World} {r : Reach} {b0 : Nat} {v : Value} {d : DataW H} {p : List MemPlace} (hv : Value.okWide Try.prog W r b0 26 v) (h : DataW.Trod enc Try.prog W 0 (fun _ => true) true 26 v d p) :
    ∃ (fn at_ n y an orr ra rn co ob : Int) (BA WA : Option Addr) (bl bc wl wc : Nat) (bs : List Bool) (ws : List Int), v = .agg #[.int .i64 fn, .int .i64 at_, .int .i64 n, .int .u16 y, .int .u16 an, .int .u16 orr, .slice BA bl bc, .slice WA wl wc, .int .i64 ra, .int .i64 rn, .int .i64 co, .int .i64 ob] ∧
      ((Lit.int .i64 fn).wf = true ∧ (Lit.int .i64 at_).wf = true ∧ (Lit.int .i64 n).wf = true ∧ (Lit.int .u16 y).wf = true ∧ (Lit.int .u16 an).wf = true ∧ (Lit.int .u16 orr).wf = true ∧ (Lit.int .i64 ra).wf = true ∧ (Lit.int .i64 rn).wf = true ∧ (Lit.int .i64 co).wf = true ∧ (Lit.int .i64 ob).wf = true) ∧ IsBools W BA bl bc bs ∧ IsRow .u16 W WA wl wc ws := by
  obtain ⟨cs, rfl, hsz⟩ := okWide_struct Try.underlying26 hv
  have hC : Try.prog.cellsOf 26 = 12 := by kernel_rfl
  obtain ⟨l⟩ := cs
  match l, hsz.trans hC with
  | [c0, c1, c2, c3, c4, c5, c6, c7, c8, c9, c10, c11], _ =>
    obtain ⟨fuel, hf⟩ := h
    obtain ⟨xs, m, _, _, _, hlen, hg⟩ := DataW.trod_struct Try.underlying26 hf
    match xs, hlen with
    | [y0, y1, y2, y3, y4, y5, y6, y7, y8, y9, y10, y11], _ =>
      have k3 : Try.prog.cellsOf 3 = 1 := by kernel_rfl
      have k22 : Try.prog.cellsOf 22 = 1 := by kernel_rfl
      have k23 : Try.prog.cellsOf 23 = 1 := by kernel_rfl
      have k24 : Try.prog.cellsOf 24 = 1 := by kernel_rfl
      have g0 := hg 0 _ rfl
      simp only [Value.cells, k3, k22, k23, k24, List.drop_succ_cons, List.drop_zero, List.take_succ_cons, List.take_zero] at g0
      obtain ⟨fn, e0, _, w0⟩ := DataW.trod_int Try.underlying3 g0
      injection e0 with e0 _
      subst e0
      have g1 := hg 1 _ rfl
      simp only [Value.cells, k3, k22, k23, k24, List.drop_succ_cons, List.drop_zero, List.take_succ_cons, List.take_zero] at g1
      obtain ⟨at_, e1, _, w1⟩ := DataW.trod_int Try.underlying3 g1
      injection e1 with e1 _
      subst e1
      have g2 := hg 2 _ rfl
      simp only [Value.cells, k3, k22, k23, k24, List.drop_succ_cons, List.drop_zero, List.take_succ_cons, List.take_zero] at g2
      obtain ⟨n, e2, _, w2⟩ := DataW.trod_int Try.underlying3 g2
      injection e2 with e2 _
      subst e2
      have g3 := hg 3 _ rfl
      simp only [Value.cells, k3, k22, k23, k24, List.drop_succ_cons, List.drop_zero, List.take_succ_cons, List.take_zero] at g3
      obtain ⟨y, e3, _, w3⟩ := DataW.trod_int Try.underlying22 g3
      injection e3 with e3 _
      subst e3
      have g4 := hg 4 _ rfl
      simp only [Value.cells, k3, k22, k23, k24, List.drop_succ_cons, List.drop_zero, List.take_succ_cons, List.take_zero] at g4
      obtain ⟨an, e4, _, w4⟩ := DataW.trod_int Try.underlying22 g4
      injection e4 with e4 _
      subst e4
      have g5 := hg 5 _ rfl
      simp only [Value.cells, k3, k22, k23, k24, List.drop_succ_cons, List.drop_zero, List.take_succ_cons, List.take_zero] at g5
      obtain ⟨orr, e5, _, w5⟩ := DataW.trod_int Try.underlying22 g5
      injection e5 with e5 _
      subst e5
      have g6 := hg 6 _ rfl
      simp only [Value.cells, k3, k22, k23, k24, List.drop_succ_cons, List.drop_zero, List.take_succ_cons, List.take_zero] at g6
      have g7 := hg 7 _ rfl
      simp only [Value.cells, k3, k22, k23, k24, List.drop_succ_cons, List.drop_zero, List.take_succ_cons, List.take_zero] at g7
      have g8 := hg 8 _ rfl
      simp only [Value.cells, k3, k22, k23, k24, List.drop_succ_cons, List.drop_zero, List.take_succ_cons, List.take_zero] at g8
      obtain ⟨ra, e8, _, w8⟩ := DataW.trod_int Try.underlying3 g8
      injection e8 with e8 _
      subst e8
      have g9 := hg 9 _ rfl
      simp only [Value.cells, k3, k22, k23, k24, List.drop_succ_cons, List.drop_zero, List.take_succ_cons, List.take_zero] at g9
      obtain ⟨rn, e9, _, w9⟩ := DataW.trod_int Try.underlying3 g9
      injection e9 with e9 _
      subst e9
      have g10 := hg 10 _ rfl
      simp only [Value.cells, k3, k22, k23, k24, List.drop_succ_cons, List.drop_zero, List.take_succ_cons, List.take_zero] at g10
      obtain ⟨co, e10, _, w10⟩ := DataW.trod_int Try.underlying3 g10
      injection e10 with e10 _
      subst e10
      have g11 := hg 11 _ rfl
      simp only [Value.cells, k3, k22, k23, k24, List.drop_succ_cons, List.drop_zero, List.take_succ_cons, List.take_zero] at g11
      obtain ⟨ob, e11, _, w11⟩ := DataW.trod_int Try.underlying3 g11
      injection e11 with e11 _
      subst e11
      have hb : ∃ BA bl bc bs, c6 = .slice BA bl bc ∧ IsBools W BA bl bc bs := by
        rcases open_bools Try.underlying23 Try.underlying4 (by kernel_rfl) g6 with ⟨hcs, _⟩ | ⟨x, l, c, B, hcs, _, hl, hm, _, hcell⟩
        · injection hcs with e _
          exact ⟨none, 0, 0, [], e, .inl ⟨rfl, rfl, rfl, rfl⟩⟩
        · injection hcs with e _
          obtain ⟨bs, hbs⟩ := isBools_mk B hl hm hcell
          exact ⟨_, _, _, bs, e, hbs⟩
      have hw : ∃ WA wl wc ws, c7 = .slice WA wl wc ∧ IsRow .u16 W WA wl wc ws := by
        rcases open_ints Try.underlying24 Try.underlying22 (by kernel_rfl) g7 with ⟨hcs, _⟩ | ⟨x, l, c, zs, hcs, _, hl, hm, hz, _, hcell, hwz⟩
        · injection hcs with e _
          exact ⟨none, 0, 0, [], e, .inl ⟨rfl, rfl, rfl, rfl⟩⟩
        · injection hcs with e _
          exact ⟨_, _, _, zs, e, .inr ⟨_, rfl, hl, hm, by simpa using hz, hcell, hwz⟩⟩
      obtain ⟨BA, bl, bc, bs, rfl, hb⟩ := hb
      obtain ⟨WA, wl, wc, ws, rfl, hw⟩ := hw
      exact ⟨fn, at_, n, y, an, orr, ra, rn, co, ob, BA, WA, bl, bc, wl, wc, bs, ws, rfl, ⟨w0, w1, w2, w3, w4, w5, w8, w9, w10, w11⟩, hb, hw⟩

end Go.Proofs.Ytijfeffjjcbijaa

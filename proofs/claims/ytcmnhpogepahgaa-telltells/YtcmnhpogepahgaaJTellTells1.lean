/- Joined: OpenObjs OpenTell. -/
import Derived.Test.YtcmnhpogepahgaaObjs
import Derived.Deep.SlicePairs
import Derived.Deep.Fields
namespace Go.Proofs.Ytcmnhpogepahgaa
open Go.ChangeShapes Go.WideShapes Go.ChangeAt Go.RowKit Go.Deep
set_option linter.unusedVariables false
set_option linter.unusedSimpArgs false

/-- What is known of a slice of objects that came in. -/
def IsObjs (w : World) (A : Option Addr) (n c : Nat) (os : List Ob) : Prop := OL w w.heap.size A n os ∧ n ≤ c ∧ n ≤ maxLen ∧ ∀ o ∈ os, (-9223372036854775808 ≤ o.1 ∧ o.1 ≤ 9223372036854775807) ∧ o.2.size ≤ maxLen

def obOf (u v : Value) : Ob := ((match u with | .int _ x => x | _ => 0), (match v with | .string s => s | _ => ByteArray.empty))
theorem objs_mk {W : World} {a : Addr} {len cap : Nat} (V0 V1 : Nat → Value) (hl : len ≤ cap) (hm : cap ≤ maxLen) (h : ∀ i, i < cap → W.cell? (a.add (i * 2)) = some (V0 i) ∧ W.cell? (a.add (i * 2 + 1)) = some (V1 i) ∧ ∃ x s, V0 i = .int .i64 x ∧ V1 i = .string s ∧ (Lit.int .i64 x).wf = true ∧ s.size ≤ maxLen) :
    IsObjs W (some a) len cap ((List.range len).map fun i => obOf (V0 i) (V1 i)) := by
  have hll : ((List.range len).map fun i => obOf (V0 i) (V1 i)).length = len := by simp
  refine ⟨⟨by rw [obs_length, hll], fun h0 => ?_⟩, hl, by omega, ?_⟩
  · have h00 := (h 0 (by omega)).1
    obtain ⟨b, off, spot⟩ := a
    have hspot : spot = none := by simpa [Addr.add] using World.cell?_spot h00
    subst hspot
    refine ⟨b, off, rfl, ?_, fun j hj => ?_⟩
    · have := World.block_lt_of_cell? W _ h00
      simpa [Addr.add] using this
    · have hg : ∀ q, q < len → ((List.range len).map fun i => obOf (V0 i) (V1 i)).getD q ob0 = obOf (V0 q) (V1 q) := by
        intro q hq
        simp [List.getD_eq_getElem?_getD, hq]
      rcases Nat.mod_two_eq_zero_or_one j with hp | hp
      · obtain ⟨q, rfl⟩ : ∃ q, j = 2 * q := ⟨j / 2, by omega⟩
        obtain ⟨h1, h2, x, s, e1, e2, _⟩ := h q (by omega)
        rw [add_none, Nat.mul_comm q 2] at h1
        rw [obs_id _ q (by rw [hll]; omega), hg q (by omega), h1, e1, e2]
        rfl
      · obtain ⟨q, rfl⟩ : ∃ q, j = 2 * q + 1 := ⟨j / 2, by omega⟩
        obtain ⟨h1, h2, x, s, e1, e2, _⟩ := h q (by omega)
        rw [add_none, Nat.mul_comm q 2] at h2
        rw [obs_val _ q (by rw [hll]; omega), hg q (by omega), h2, e1, e2]
        rfl
  · intro o ho
    obtain ⟨q, hq, rfl⟩ := List.mem_map.1 ho
    obtain ⟨h1, h2, x, s, e1, e2, hw, hs⟩ := h q (by have := List.mem_range.1 hq; omega)
    rw [e1, e2]
    exact ⟨bounds_i64 hw, hs⟩

set_option maxRecDepth 100000 in
theorem open_objs {H : Type} {enc : TypeId × Value → H} {W : World} {fuel : Nat} {cs : List Value} {x : DataW H × List MemPlace} (h : DataW.trod enc Try.prog W 0 (fun _ => true) true fuel 25 cs = some x) :
    ∃ (A : Option Addr) (n c : Nat) (os : List Ob), cs = [.slice A n c] ∧ IsObjs W A n c os := by
  rcases open_slice_pairs Try.underlying25 Try.underlying77 (by kernel_rfl) rfl rfl (by kernel_rfl) (by kernel_rfl) h with ⟨rfl, _⟩ | ⟨a, len, cap, m, nn, V0, V1, D0, D1, P0, P1, rfl, hb, hl, hm, hmm, hx, hi⟩
  · exact ⟨none, 0, 0, [], rfl, OL.nil, Nat.le_refl _, Nat.zero_le _, fun o ho => by cases ho⟩
  · simp only [if_true] at hmm
    subst hmm
    refine ⟨some a, len, m, _, rfl, objs_mk V0 V1 hl hm fun i him => ?_⟩
    obtain ⟨h1, h2, t1, t2⟩ := hi i him
    obtain ⟨x1, e1, _, w1⟩ := DataW.trod_int Try.underlying3 t1
    obtain ⟨s1, e2, _, w2⟩ := DataW.trod_string Try.underlying9 t2
    injection e1 with e1 _
    injection e2 with e2 _
    exact ⟨h1, h2, x1, s1, e1, e2, w1, w2⟩

set_option maxRecDepth 100000 in
theorem open_tell {H : Type} {enc : TypeId × Value → H} {W : World} {r : Reach} {b0 : Nat} {vv : Value} {d : DataW H} {p : List MemPlace} (hv : Value.okWide Try.prog W r b0 27 vv) (h : DataW.Trod enc Try.prog W 0 (fun _ => true) true 27 vv d p) :
    ∃ (fn ex at_ q v an orr co le nx : Int) (BA WA : Option Addr) (bl bc wl wc : Nat) (bs : List Bool) (ws : List Int) (mo : Bool) (OA : Option Addr) (ol oc : Nat) (os : List Ob), vv = .agg #[.int .i64 fn, .int .i64 ex, .slice BA bl bc, .slice WA wl wc, .int .i64 at_, .int .i64 q, .int .u16 v, .int .u16 an, .int .u16 orr, .int .i64 co, .int .i64 le, .bool mo, .int .i64 nx, .slice OA ol oc] ∧
      ((Lit.int .i64 fn).wf = true ∧ (Lit.int .i64 ex).wf = true ∧ (Lit.int .i64 at_).wf = true ∧ (Lit.int .i64 q).wf = true ∧ (Lit.int .u16 v).wf = true ∧ (Lit.int .u16 an).wf = true ∧ (Lit.int .u16 orr).wf = true ∧ (Lit.int .i64 co).wf = true ∧ (Lit.int .i64 le).wf = true ∧ (Lit.int .i64 nx).wf = true) ∧ IsBools W BA bl bc bs ∧ IsRow .u16 W WA wl wc ws ∧ IsObjs W OA ol oc os := by
  obtain ⟨cs, rfl, hsz⟩ := okWide_struct Try.underlying27 hv
  have hC : Try.prog.cellsOf 27 = 14 := by kernel_rfl
  obtain ⟨l⟩ := cs
  match l, hsz.trans hC with
  | [c0, c1, c2, c3, c4, c5, c6, c7, c8, c9, c10, c11, c12, c13], _ =>
    obtain ⟨fuel, hf⟩ := h
    obtain ⟨xs, m, _, _, _, hlen, hg⟩ := DataW.trod_struct Try.underlying27 hf
    match xs, hlen with
    | [y0, y1, y2, y3, y4, y5, y6, y7, y8, y9, y10, y11, y12, y13], _ =>
      have k3 : Try.prog.cellsOf 3 = 1 := by kernel_rfl
      have k22 : Try.prog.cellsOf 24 = 1 := by kernel_rfl
      have k23 : Try.prog.cellsOf 22 = 1 := by kernel_rfl
      have k24 : Try.prog.cellsOf 23 = 1 := by kernel_rfl
      have kb : Try.prog.cellsOf 4 = 1 := by kernel_rfl
      have ko : Try.prog.cellsOf 25 = 1 := by kernel_rfl
      have g0 := hg 0 _ rfl
      simp only [Value.cells, k3, k22, k23, k24, kb, ko, List.drop_succ_cons, List.drop_zero, List.take_succ_cons, List.take_zero] at g0
      obtain ⟨fn, e0, _, w0⟩ := DataW.trod_int Try.underlying3 g0
      injection e0 with e0 _
      subst e0
      have g1 := hg 1 _ rfl
      simp only [Value.cells, k3, k22, k23, k24, kb, ko, List.drop_succ_cons, List.drop_zero, List.take_succ_cons, List.take_zero] at g1
      obtain ⟨ex, e1, _, w1⟩ := DataW.trod_int Try.underlying3 g1
      injection e1 with e1 _
      subst e1
      have g2 := hg 2 _ rfl
      simp only [Value.cells, k3, k22, k23, k24, kb, ko, List.drop_succ_cons, List.drop_zero, List.take_succ_cons, List.take_zero] at g2
      have g3 := hg 3 _ rfl
      simp only [Value.cells, k3, k22, k23, k24, kb, ko, List.drop_succ_cons, List.drop_zero, List.take_succ_cons, List.take_zero] at g3
      have g4 := hg 4 _ rfl
      simp only [Value.cells, k3, k22, k23, k24, kb, ko, List.drop_succ_cons, List.drop_zero, List.take_succ_cons, List.take_zero] at g4
      obtain ⟨at_, e4, _, w4⟩ := DataW.trod_int Try.underlying3 g4
      injection e4 with e4 _
      subst e4
      have g5 := hg 5 _ rfl
      simp only [Value.cells, k3, k22, k23, k24, kb, ko, List.drop_succ_cons, List.drop_zero, List.take_succ_cons, List.take_zero] at g5
      obtain ⟨q, e5, _, w5⟩ := DataW.trod_int Try.underlying3 g5
      injection e5 with e5 _
      subst e5
      have g6 := hg 6 _ rfl
      simp only [Value.cells, k3, k22, k23, k24, kb, ko, List.drop_succ_cons, List.drop_zero, List.take_succ_cons, List.take_zero] at g6
      obtain ⟨v, e6, _, w6⟩ := DataW.trod_int Try.underlying24 g6
      injection e6 with e6 _
      subst e6
      have g7 := hg 7 _ rfl
      simp only [Value.cells, k3, k22, k23, k24, kb, ko, List.drop_succ_cons, List.drop_zero, List.take_succ_cons, List.take_zero] at g7
      obtain ⟨an, e7, _, w7⟩ := DataW.trod_int Try.underlying24 g7
      injection e7 with e7 _
      subst e7
      have g8 := hg 8 _ rfl
      simp only [Value.cells, k3, k22, k23, k24, kb, ko, List.drop_succ_cons, List.drop_zero, List.take_succ_cons, List.take_zero] at g8
      obtain ⟨orr, e8, _, w8⟩ := DataW.trod_int Try.underlying24 g8
      injection e8 with e8 _
      subst e8
      have g9 := hg 9 _ rfl
      simp only [Value.cells, k3, k22, k23, k24, kb, ko, List.drop_succ_cons, List.drop_zero, List.take_succ_cons, List.take_zero] at g9
      obtain ⟨co, e9, _, w9⟩ := DataW.trod_int Try.underlying3 g9
      injection e9 with e9 _
      subst e9
      have g10 := hg 10 _ rfl
      simp only [Value.cells, k3, k22, k23, k24, kb, ko, List.drop_succ_cons, List.drop_zero, List.take_succ_cons, List.take_zero] at g10
      obtain ⟨le, e10, _, w10⟩ := DataW.trod_int Try.underlying3 g10
      injection e10 with e10 _
      subst e10
      have g11 := hg 11 _ rfl
      simp only [Value.cells, k3, k22, k23, k24, kb, ko, List.drop_succ_cons, List.drop_zero, List.take_succ_cons, List.take_zero] at g11
      obtain ⟨mo, e11, _⟩ := DataW.trod_bool Try.underlying4 g11
      injection e11 with e11 _
      subst e11
      have g12 := hg 12 _ rfl
      simp only [Value.cells, k3, k22, k23, k24, kb, ko, List.drop_succ_cons, List.drop_zero, List.take_succ_cons, List.take_zero] at g12
      obtain ⟨nx, e12, _, w12⟩ := DataW.trod_int Try.underlying3 g12
      injection e12 with e12 _
      subst e12
      have g13 := hg 13 _ rfl
      simp only [Value.cells, k3, k22, k23, k24, kb, ko, List.drop_succ_cons, List.drop_zero, List.take_succ_cons, List.take_zero] at g13
      obtain ⟨OA, ol, oc, os, e13, ho⟩ := open_objs g13
      injection e13 with e13 _
      subst e13
      have hb : ∃ BA bl bc bs, c2 = .slice BA bl bc ∧ IsBools W BA bl bc bs := by
        rcases open_bools Try.underlying22 Try.underlying4 (by kernel_rfl) g2 with ⟨hcs, _⟩ | ⟨x, l, c, B, hcs, _, hl, hm, _, hcell⟩
        · injection hcs with e _
          exact ⟨none, 0, 0, [], e, .inl ⟨rfl, rfl, rfl, rfl⟩⟩
        · injection hcs with e _
          obtain ⟨bs, hbs⟩ := isBools_mk B hl hm hcell
          exact ⟨_, _, _, bs, e, hbs⟩
      have hw : ∃ WA wl wc ws, c3 = .slice WA wl wc ∧ IsRow .u16 W WA wl wc ws := by
        rcases open_ints Try.underlying23 Try.underlying24 (by kernel_rfl) g3 with ⟨hcs, _⟩ | ⟨x, l, c, zs, hcs, _, hl, hm, hz, _, hcell, hwz⟩
        · injection hcs with e _
          exact ⟨none, 0, 0, [], e, .inl ⟨rfl, rfl, rfl, rfl⟩⟩
        · injection hcs with e _
          exact ⟨_, _, _, zs, e, .inr ⟨_, rfl, hl, hm, by simpa using hz, hcell, hwz⟩⟩
      obtain ⟨BA, bl, bc, bs, rfl, hb⟩ := hb
      obtain ⟨WA, wl, wc, ws, rfl, hw⟩ := hw
      exact ⟨fn, ex, at_, q, v, an, orr, co, le, nx, BA, WA, bl, bc, wl, wc, bs, ws, mo, OA, ol, oc, os, rfl, ⟨w0, w1, w4, w5, w6, w7, w8, w9, w10, w12⟩, hb, hw, ho⟩

end Go.Proofs.Ytcmnhpogepahgaa

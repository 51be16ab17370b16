/- Arguments that are an api.Span, an api.Key, a slice of spans, opened to their cells. -/
import Derived.Test.YtlnmdepaobocnaaSpan1
import Derived.Deep.SlicePairs
import Derived.Deep.Fields
namespace Go.Proofs.Ytlnmdepaobocnaa
open Go.ChangeShapes Go.WideShapes Go.ChangeAt Go.RowKit Go.Deep
set_option linter.unusedVariables false
set_option linter.unusedSimpArgs false

/-- What is known of a slice of spans that came in. -/
def IsSpans (w : World) (A : Option Addr) (n c : Nat) (l : List Sp) : Prop := SL w A n l ∧ n ≤ c ∧ c ≤ maxLen

def spOfV (u v x : Value) : Sp := ((match u with | .int _ x => x | _ => 0), (match v with | .int _ x => x | _ => 0), (match x with | .int _ x => x | _ => 0))
theorem spans_mk {W : World} {a : Addr} {len cap : Nat} (V0 V1 V2 : Nat → Value) (hl : len ≤ cap) (hm : cap ≤ maxLen) (h : ∀ i, i < len → W.cell? (a.add (i * 3)) = some (V0 i) ∧ W.cell? (a.add (i * 3 + 1)) = some (V1 i) ∧ W.cell? (a.add (i * 3 + 2)) = some (V2 i) ∧ ∃ x y z, V0 i = .int .i64 x ∧ V1 i = .int .i64 y ∧ V2 i = .int .i64 z) :
    IsSpans W (some a) len cap ((List.range len).map fun i => spOfV (V0 i) (V1 i) (V2 i)) := by
  have hll : ((List.range len).map fun i => spOfV (V0 i) (V1 i) (V2 i)).length = len := by simp
  refine ⟨⟨by rw [sps_length, hll], fun h0 => ?_⟩, hl, hm⟩
  have h00 := (h 0 (by omega)).1
  obtain ⟨b, off, spot⟩ := a
  have hspot : spot = none := by simpa [Addr.add] using World.cell?_spot h00
  subst hspot
  refine ⟨b, off, rfl, ?_, fun j hj => ?_⟩
  · have := World.block_lt_of_cell? W _ h00
    simpa [Addr.add] using this
  · have hg : ∀ q, q < len → ((List.range len).map fun i => spOfV (V0 i) (V1 i) (V2 i)).getD q sp0 = spOfV (V0 q) (V1 q) (V2 q) := by
      intro q hq
      simp [List.getD_eq_getElem?_getD, hq]
    obtain ⟨q, r, hr, rfl⟩ : ∃ q r, r < 3 ∧ j = 3 * q + r := ⟨j / 3, j % 3, by omega, by omega⟩
    have hq : q < len := by omega
    obtain ⟨h1, h2, h3, x, y, z, e1, e2, e3⟩ := h q hq
    obtain ⟨s1, s2, s3⟩ := sps_at ((List.range len).map fun i => spOfV (V0 i) (V1 i) (V2 i)) q (by rw [hll]; exact hq)
    rw [hg q hq] at s1 s2 s3
    rw [add_none, Nat.mul_comm q 3] at h1 h2 h3
    match r, hr with
    | 0, _ => rw [Nat.add_zero, h1, s1, e1]; rfl
    | 1, _ => rw [h2, s2, e2]; rfl
    | 2, _ => rw [h3, s3, e3]; rfl

set_option maxRecDepth 100000 in
theorem open_spans {H : Type} {enc : TypeId × Value → H} {W : World} {fuel : Nat} {cs : List Value} {x : DataW H × List MemPlace} (h : DataW.trod enc Try.prog W 0 (fun _ => true) true fuel 24 cs = some x) :
    ∃ (A : Option Addr) (n c : Nat) (l : List Sp), cs = [.slice A n c] ∧ IsSpans W A n c l := by
  have ce : Try.prog.cellsOf 23 = 3 := by kernel_rfl
  have k3 : Try.prog.cellsOf 3 = 1 := by kernel_rfl
  rcases open_slice Try.underlying24 h with ⟨rfl, _⟩ | ⟨a, len, cap, m, n, D, Pl, rfl, hb, hl, hm, hmm, rfl, hx⟩
  · exact ⟨none, 0, 0, [], rfl, SL.nil, Nat.le_refl _, Nat.zero_le _⟩
  · have hlm : len ≤ m := by rw [hmm]; split <;> omega
    have each : ∀ i, i < len → ∃ q : Value × Value × Value, W.cell? (a.add (i * 3)) = some q.1 ∧ W.cell? (a.add (i * 3 + 1)) = some q.2.1 ∧ W.cell? (a.add (i * 3 + 2)) = some q.2.2 ∧ ∃ x y z, q.1 = .int .i64 x ∧ q.2.1 = .int .i64 y ∧ q.2.2 = .int .i64 z := by
      intro i hi
      obtain ⟨cs', h1, h2⟩ := hx i (by omega)
      rw [ce] at h1
      obtain ⟨_, hlen, hcell⟩ := World.cells?_some h1
      obtain ⟨xs, k, hk, hxy, _, hxl, hf⟩ := DataW.trod_struct Try.underlying23 h2
      match xs, hxl, cs', hlen with
      | [y0, y1, y2], _, [v0, v1, v2], _ =>
        have g0 := hf 0 _ rfl
        have g1 := hf 1 _ rfl
        have g2 := hf 2 _ rfl
        simp [k3] at g0 g1 g2
        have e0 := hcell 0 (by omega)
        have e1 := hcell 1 (by omega)
        have e2 := hcell 2 (by omega)
        rw [add_add] at e0 e1 e2
        obtain ⟨x1, f1, _, w1⟩ := DataW.trod_int Try.underlying3 g0
        obtain ⟨x2, f2, _, w2⟩ := DataW.trod_int Try.underlying3 g1
        obtain ⟨x3, f3, _, w3⟩ := DataW.trod_int Try.underlying3 g2
        injection f1 with f1 _
        injection f2 with f2 _
        injection f3 with f3 _
        exact ⟨(v0, v1, v2), by simpa using e0, by simpa using e1, by simpa using e2, x1, x2, x3, f1, f2, f3⟩
    obtain ⟨q, hq⟩ := choose_lt each
    exact ⟨some a, len, cap, _, rfl, spans_mk (fun i => (q i).1) (fun i => (q i).2.1) (fun i => (q i).2.2) hl hm fun i hi => hq i hi⟩

set_option maxRecDepth 100000 in
theorem open_span {H : Type} {enc : TypeId × Value → H} {W : World} {r : Reach} {b0 : Nat} {vv : Value} {d : DataW H} {p : List MemPlace} (hv : Value.okWide Try.prog W r b0 23 vv) (h : DataW.Trod enc Try.prog W 0 (fun _ => true) true 23 vv d p) :
    ∃ t f u : Int, vv = .agg #[.int .i64 t, .int .i64 f, .int .i64 u] := by
  obtain ⟨cs, rfl, hsz⟩ := okWide_struct Try.underlying23 hv
  have hC : Try.prog.cellsOf 23 = 3 := by kernel_rfl
  obtain ⟨l⟩ := cs
  match l, hsz.trans hC with
  | [c0, c1, c2], _ =>
    obtain ⟨fuel, hf⟩ := h
    obtain ⟨xs, m, _, _, _, hlen, hg⟩ := DataW.trod_struct Try.underlying23 hf
    match xs, hlen with
    | [y0, y1, y2], _ =>
      have k3 : Try.prog.cellsOf 3 = 1 := by kernel_rfl
      have g0 := hg 0 _ rfl
      have g1 := hg 1 _ rfl
      have g2 := hg 2 _ rfl
      simp only [Value.cells, k3, List.drop_succ_cons, List.drop_zero, List.take_succ_cons, List.take_zero] at g0 g1 g2
      obtain ⟨t, e0, _, w0⟩ := DataW.trod_int Try.underlying3 g0
      obtain ⟨f, e1, _, w1⟩ := DataW.trod_int Try.underlying3 g1
      obtain ⟨u, e2, _, w2⟩ := DataW.trod_int Try.underlying3 g2
      injection e0 with e0 _
      injection e1 with e1 _
      injection e2 with e2 _
      subst e0 e1 e2
      exact ⟨t, f, u, rfl⟩

set_option maxRecDepth 100000 in
theorem open_key {H : Type} {enc : TypeId × Value → H} {W : World} {r : Reach} {b0 : Nat} {vv : Value} {d : DataW H} {p : List MemPlace} (hv : Value.okWide Try.prog W r b0 39 vv) (h : DataW.Trod enc Try.prog W 0 (fun _ => true) true 39 vv d p) :
    ∃ t a : Int, vv = .agg #[.int .i64 t, .int .i64 a] ∧ (Lit.int .i64 a).wf = true := by
  obtain ⟨cs, rfl, hsz⟩ := okWide_struct Try.underlying39 hv
  have hC : Try.prog.cellsOf 39 = 2 := by kernel_rfl
  obtain ⟨l⟩ := cs
  match l, hsz.trans hC with
  | [c0, c1], _ =>
    obtain ⟨fuel, hf⟩ := h
    obtain ⟨xs, m, _, _, _, hlen, hg⟩ := DataW.trod_struct Try.underlying39 hf
    match xs, hlen with
    | [y0, y1], _ =>
      have k3 : Try.prog.cellsOf 3 = 1 := by kernel_rfl
      have g0 := hg 0 _ rfl
      have g1 := hg 1 _ rfl
      simp only [Value.cells, k3, List.drop_succ_cons, List.drop_zero, List.take_succ_cons, List.take_zero] at g0 g1
      obtain ⟨t, e0, _, w0⟩ := DataW.trod_int Try.underlying3 g0
      obtain ⟨a, e1, _, w1⟩ := DataW.trod_int Try.underlying3 g1
      injection e0 with e0 _
      injection e1 with e1 _
      subst e0 e1
      exact ⟨t, a, rfl, w1⟩

end Go.Proofs.Ytlnmdepaobocnaa

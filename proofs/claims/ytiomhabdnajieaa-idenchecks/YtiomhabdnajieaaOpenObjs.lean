/- An argument that is a slice of objects, opened to its cells. -/
import Derived.Test.YtiomhabdnajieaaObjs
import Derived.Deep.SlicePairs
namespace Go.Proofs.Ytiomhabdnajieaa
open Go.ChangeShapes Go.WideShapes Go.ChangeAt Go.RowKit Go.Deep
set_option linter.unusedVariables false
set_option linter.unusedSimpArgs false

/-- What is known of a slice of objects that came in. -/
def IsObjs (w : World) (A : Option Addr) (n c : Nat) (os : List Ob) : Prop := OL w w.heap.size A n os ∧ n ≤ c ∧ n ≤ maxLen ∧ ∀ o ∈ os, (-9223372036854775808 ≤ o.1 ∧ o.1 ≤ 9223372036854775807) ∧ o.2.size ≤ maxLen

def obOf (u v : Value) : Ob := ((match u with | .int _ x => x | _ => 0), (match v with | .string s => s | _ => ByteArray.empty))
theorem objs_mk {W : World} {a : Addr} {len cap : Nat} (V0 V1 : Nat → Value) (hl : len ≤ cap) (hm : cap ≤ maxLen) (h : ∀ i, i < cap → W.cell? (a.add (i * 2)) = some (V0 i) ∧ W.cell? (a.add (i * 2 + 1)) = some (V1 i) ∧ ∃ x s, V0 i = .int .i64 x ∧ V1 i = .string s ∧ (Lit.int .i64 x).wf = true ∧ s.size ≤ maxLen) :
    IsObjs W (some a) len cap ((List.range len).map fun i => obOf (V0 i) (V1 i)) := by
  have hll : ((List.range len).map fun i => obOf (V0 i) (V1 i)).length = len := by simp
  refine ⟨⟨by rw [obs_length, hll], fun h0 => ?_⟩, hl, by omega, ?_⟩
  · have h00 := (h 0 (by omega)).1
    obtain ⟨b, off, spot⟩ := a
    have hspot : spot = none := by simpa [Addr.add] using World.cell?_spot h00
    subst hspot
    refine ⟨b, off, rfl, ?_, fun j hj => ?_⟩
    · have := World.block_lt_of_cell? W _ h00
      simpa [Addr.add] using this
    · have hg : ∀ q, q < len → ((List.range len).map fun i => obOf (V0 i) (V1 i)).getD q ob0 = obOf (V0 q) (V1 q) := by
        intro q hq
        simp [List.getD_eq_getElem?_getD, hq]
      rcases Nat.mod_two_eq_zero_or_one j with hp | hp
      · obtain ⟨q, rfl⟩ : ∃ q, j = 2 * q := ⟨j / 2, by omega⟩
        obtain ⟨h1, h2, x, s, e1, e2, _⟩ := h q (by omega)
        rw [add_none, Nat.mul_comm q 2] at h1
        rw [obs_id _ q (by rw [hll]; omega), hg q (by omega), h1, e1, e2]
        rfl
      · obtain ⟨q, rfl⟩ : ∃ q, j = 2 * q + 1 := ⟨j / 2, by omega⟩
        obtain ⟨h1, h2, x, s, e1, e2, _⟩ := h q (by omega)
        rw [add_none, Nat.mul_comm q 2] at h2
        rw [obs_val _ q (by rw [hll]; omega), hg q (by omega), h2, e1, e2]
        rfl
  · intro o ho
    obtain ⟨q, hq, rfl⟩ := List.mem_map.1 ho
    obtain ⟨h1, h2, x, s, e1, e2, hw, hs⟩ := h q (by have := List.mem_range.1 hq; omega)
    rw [e1, e2]
    exact ⟨bounds_i64 hw, hs⟩

set_option maxRecDepth 100000 in
theorem open_objs {H : Type} {enc : TypeId × Value → H} {W : World} {fuel : Nat} {cs : List Value} {x : DataW H × List MemPlace} (h : DataW.trod enc Try.prog W 0 (fun _ => true) true fuel 25 cs = some x) :
    ∃ (A : Option Addr) (n c : Nat) (os : List Ob), cs = [.slice A n c] ∧ IsObjs W A n c os := by
  rcases open_slice_pairs Try.underlying25 Try.underlying67 (by kernel_rfl) rfl rfl (by kernel_rfl) (by kernel_rfl) h with ⟨rfl, _⟩ | ⟨a, len, cap, m, nn, V0, V1, D0, D1, P0, P1, rfl, hb, hl, hm, hmm, hx, hi⟩
  · exact ⟨none, 0, 0, [], rfl, OL.nil, Nat.le_refl _, Nat.zero_le _, fun o ho => by cases ho⟩
  · simp only [if_true] at hmm
    subst hmm
    refine ⟨some a, len, m, _, rfl, objs_mk V0 V1 hl hm fun i him => ?_⟩
    obtain ⟨h1, h2, t1, t2⟩ := hi i him
    obtain ⟨x1, e1, _, w1⟩ := DataW.trod_int Try.underlying3 t1
    obtain ⟨s1, e2, _, w2⟩ := DataW.trod_string Try.underlying9 t2
    injection e1 with e1 _
    injection e2 with e2 _
    exact ⟨h1, h2, x1, s1, e1, e2, w1, w2⟩

end Go.Proofs.Ytiomhabdnajieaa

/- The document's told: replies of 43. No statement is proved here. -/
import Derived.Test.YtokljdkbheogoaaFarW
import Derived.Test.YtokljdkbheogoaaPObjs
import Derived.Deep.CutBlock
import Derived.Deep.RegionLaw
import Derived.Deep.RegionHeld3
import Derived.Deep.CutRange
namespace Go.Proofs.Ytokljdkbheogoaa
open Go.ChangeShapes Go.WideShapes Go.ChangeAt Go.RowKit
set_option linter.unusedVariables false
set_option linter.unusedSimpArgs false

/-- What told leaves of a right head. -/
def ToldGot (z2 z3 z5 : Int) (mo : Bool) (N : Nat) (zs : List Int) (w : World) (e : Ending) (w' : World) : Prop :=
  ∃ OA ol oc ok, e = .returned (.tuple #[.agg #[.int .i64 43, .int .i64 0, .slice none 0 0, .slice none 0 0, .int .i64 0, .int .i64 0, .int .u16 0, .int .u16 0, .int .u16 0, .int .i64 z2, .int .i64 z3, .bool mo, .int .i64 z5, .slice OA ol oc], .bool ok]) ∧ Below w.heap.size w w' ∧ (∀ os, parseO N (zs.drop 7) = some os → ok = true ∧ ol = os.length ∧ w'.ownsRow (w.heap.size + 2) 72 2 (.slice OA ol oc) ol (obs os)) ∧ (parseO N (zs.drop 7) = none → ok = false)

theorem own2_lo {w : World} {b : Nat} {e : TypeId} {v : Value} {n : Nat} {xs : List Value} (h : w.ownsRow b e 2 v n xs) (p : Addr) (hp : p.block < b) (u : Value) : (w.setCell p u).ownsRow b e 2 v n xs := by
  refine ⟨h.1, ?_⟩
  rcases h.2 with h0 | ⟨g, cap, cur, hv, hg, hh, rest⟩
  · exact .inl h0
  · exact .inr ⟨g, cap, cur, hv, hg, (Below.heap_setCell w p u g (by omega)).trans hh, rest⟩

set_option maxRecDepth 100000 in
set_option maxHeartbeats 4000000 in
theorem told_few (b off n c : Nat) (zs : List Int) (w : World) (hr : Row .u8 w w.heap.size (some ⟨b, off, none⟩) n zs) (hx : Bytes8 zs) (hn : n ≤ 1000) (h1n : 1 ≤ n) (h0 : zs.getD 0 0 = 43) (hc : n ≤ c) (hfew : n < 7) :
    Calls Try.prog 78 #[.slice (some ⟨b, off, none⟩) n c] w fun e w' => e = .returned (.tuple #[.agg #[.int .i64 43, .int .i64 0, .slice none 0 0, .slice none 0 0, .int .i64 0, .int .i64 0, .int .u16 0, .int .u16 0, .int .u16 0, .int .i64 0, .int .i64 0, .bool false, .int .i64 0, .slice none 0 0], .bool false]) ∧ Below w.heap.size w w' := by
  obtain ⟨b', off', e1, hb, hcell⟩ := hr.2 (by omega)
  injection e1 with e1
  injection e1 with e1 e2
  subst e1 e2
  have hkw1 : Below w.heap.size w (w.alloc (.cells #[.int .i64 0, .int .i64 0, .slice none 0 0, .slice none 0 0, .int .i64 0, .int .i64 0, .int .u16 0, .int .u16 0, .int .u16 0, .int .i64 0, .int .i64 0, .bool false, .int .i64 0, .slice none 0 0] 31)) := (Below.refl _ _).alloc (Nat.le_refl _) _
  have hkw : Below w.heap.size w ((w.alloc (.cells #[.int .i64 0, .int .i64 0, .slice none 0 0, .slice none 0 0, .int .i64 0, .int .i64 0, .int .u16 0, .int .u16 0, .int .u16 0, .int .i64 0, .int .i64 0, .bool false, .int .i64 0, .slice none 0 0] 31)).alloc (.cells #[.int .i64 43, .int .i64 0, .slice none 0 0, .slice none 0 0, .int .i64 0, .int .i64 0, .int .u16 0, .int .u16 0, .int .u16 0, .int .i64 0, .int .i64 0, .bool false, .int .i64 0, .slice none 0 0] 31)) := ((Below.refl _ _).alloc (Nat.le_refl _) _).alloc (by simp) _
  have HCE := Lib.hid (fun X (hX : Below w.heap.size w X) j (hj : j < n) => (hX.cell (p := ⟨b, off + j, none⟩) hb).trans (hcell j hj))
  have HRG := Lib.hid (fun X (hX : Below w.heap.size w X) => (hr.below hX).more hX.size)
  have HX := Lib.hid hx
  have HKW := Lib.hid hkw
  have HG4 : Hid (WholeV ((w.alloc (.cells #[.int .i64 0, .int .i64 0, .slice none 0 0, .slice none 0 0, .int .i64 0, .int .i64 0, .int .u16 0, .int .u16 0, .int .u16 0, .int .i64 0, .int .i64 0, .bool false, .int .i64 0, .slice none 0 0] 31)).alloc (.cells #[.int .i64 43, .int .i64 0, .slice none 0 0, .slice none 0 0, .int .i64 0, .int .i64 0, .int .u16 0, .int .u16 0, .int .u16 0, .int .i64 0, .int .i64 0, .bool false, .int .i64 0, .slice none 0 0] 31)) (w.heap.size + 1) 31 [.int .i64 43, .int .i64 0, .slice none 0 0, .slice none 0 0, .int .i64 0, .int .i64 0, .int .u16 0, .int .u16 0, .int .u16 0, .int .i64 0, .int .i64 0, .bool false, .int .i64 0, .slice none 0 0]) := by
    have h := heap_alloc_new (w.alloc (.cells #[.int .i64 0, .int .i64 0, .slice none 0 0, .slice none 0 0, .int .i64 0, .int .i64 0, .int .u16 0, .int .u16 0, .int .u16 0, .int .i64 0, .int .i64 0, .bool false, .int .i64 0, .slice none 0 0] 31)) (.cells #[.int .i64 43, .int .i64 0, .slice none 0 0, .slice none 0 0, .int .i64 0, .int .i64 0, .int .u16 0, .int .u16 0, .int .u16 0, .int .i64 0, .int .i64 0, .bool false, .int .i64 0, .slice none 0 0] 31)
    rwa [show (w.alloc (.cells #[.int .i64 0, .int .i64 0, .slice none 0 0, .slice none 0 0, .int .i64 0, .int .i64 0, .int .u16 0, .int .u16 0, .int .u16 0, .int .i64 0, .int .i64 0, .bool false, .int .i64 0, .slice none 0 0] 31)).heap.size = w.heap.size + 1 by simp] at h
  have HG2 : Hid (WholeV ((w.alloc (.cells #[.int .i64 0, .int .i64 0, .slice none 0 0, .slice none 0 0, .int .i64 0, .int .i64 0, .int .u16 0, .int .u16 0, .int .u16 0, .int .i64 0, .int .i64 0, .bool false, .int .i64 0, .slice none 0 0] 31)).alloc (.cells #[.int .i64 43, .int .i64 0, .slice none 0 0, .slice none 0 0, .int .i64 0, .int .i64 0, .int .u16 0, .int .u16 0, .int .u16 0, .int .i64 0, .int .i64 0, .bool false, .int .i64 0, .slice none 0 0] 31)) w.heap.size 31 [.int .i64 0, .int .i64 0, .slice none 0 0, .slice none 0 0, .int .i64 0, .int .i64 0, .int .u16 0, .int .u16 0, .int .u16 0, .int .i64 0, .int .i64 0, .bool false, .int .i64 0, .slice none 0 0]) := by
    have h : WholeV (w.alloc (.cells #[.int .i64 0, .int .i64 0, .slice none 0 0, .slice none 0 0, .int .i64 0, .int .i64 0, .int .u16 0, .int .u16 0, .int .u16 0, .int .i64 0, .int .i64 0, .bool false, .int .i64 0, .slice none 0 0] 31)) w.heap.size 31 [.int .i64 0, .int .i64 0, .slice none 0 0, .slice none 0 0, .int .i64 0, .int .i64 0, .int .u16 0, .int .u16 0, .int .u16 0, .int .i64 0, .int .i64 0, .bool false, .int .i64 0, .slice none 0 0] := heap_alloc_new w _
    exact h.below ((Below.refl _ _).alloc (Nat.le_refl _) _) (by simp)
  have hn0 : (0 : Int) < (n : Int) := by omega
  have hl7 : (n : Int) < 7 := by omega
  have H0 := Lib.hid h0
  clear hr hcell hkw hkw1 h0
  go_enter Try.func78, Try.ntmps78
  go_upto_region 2 with fail
  obtain ⟨w3, hw3⟩ : ∃ w3, ((w.alloc (.cells #[.int .i64 0, .int .i64 0, .slice none 0 0, .slice none 0 0, .int .i64 0, .int .i64 0, .int .u16 0, .int .u16 0, .int .u16 0, .int .i64 0, .int .i64 0, .bool false, .int .i64 0, .slice none 0 0] 31)).alloc (.cells #[.int .i64 43, .int .i64 0, .slice none 0 0, .slice none 0 0, .int .i64 0, .int .i64 0, .int .u16 0, .int .u16 0, .int .u16 0, .int .i64 0, .int .i64 0, .bool false, .int .i64 0, .slice none 0 0] 31)) = w3 := ⟨_, rfl⟩
  have G4 : Hid (WholeV w3 (w.heap.size + 1) 31 [.int .i64 43, .int .i64 0, .slice none 0 0, .slice none 0 0, .int .i64 0, .int .i64 0, .int .u16 0, .int .u16 0, .int .u16 0, .int .i64 0, .int .i64 0, .bool false, .int .i64 0, .slice none 0 0]) := by rw [← hw3]; exact HG4.out
  have G2 : Hid (WholeV w3 w.heap.size 31 [.int .i64 0, .int .i64 0, .slice none 0 0, .slice none 0 0, .int .i64 0, .int .i64 0, .int .u16 0, .int .u16 0, .int .u16 0, .int .i64 0, .int .i64 0, .bool false, .int .i64 0, .slice none 0 0]) := by rw [← hw3]; exact HG2.out
  have GB : Hid (Below w.heap.size w w3) := by rw [← hw3]; exact HKW.out
  have hz3 : w.heap.size + 1 < w3.heap.size := G4.out.lt
  obtain ⟨hs0, hs1, hs2, hs3, hs4, hs5, hs6, hs7, hs8, hs9, hs10, hs11, hs12, hs13⟩ := cells14 G4.out
  obtain ⟨hp0, hp1, hp2, hp3, hp4, hp5, hp6, hp7, hp8, hp9, hp10, hp11, hp12, hp13⟩ := cells14 G2.out
  have hf0 := G4.out.frozen 0
  have hf1 := G4.out.frozen 1
  have hf2 := G4.out.frozen 2
  have hf3 := G4.out.frozen 3
  have hf4 := G4.out.frozen 4
  have hf5 := G4.out.frozen 5
  have hf6 := G4.out.frozen 6
  have hf7 := G4.out.frozen 7
  have hf8 := G4.out.frozen 8
  have hf9 := G4.out.frozen 9
  have hf10 := G4.out.frozen 10
  have hf11 := G4.out.frozen 11
  have hf12 := G4.out.frozen 12
  have hf13 := G4.out.frozen 13
  have hg0 := G2.out.frozen 0
  have hg1 := G2.out.frozen 1
  have hg2 := G2.out.frozen 2
  have hg3 := G2.out.frozen 3
  have hg4 := G2.out.frozen 4
  have hg5 := G2.out.frozen 5
  have hg6 := G2.out.frozen 6
  have hg7 := G2.out.frozen 7
  have hg8 := G2.out.frozen 8
  have hg9 := G2.out.frozen 9
  have hg10 := G2.out.frozen 10
  have hg11 := G2.out.frozen 11
  have hg12 := G2.out.frozen 12
  have hg13 := G2.out.frozen 13
  rw [hw3]
  clear hw3 HG4 HG2 HKW
  go_wp2_with fail
  obtain ⟨X, hX⟩ : ∃ X, w3 = X := ⟨_, rfl⟩
  have hx0 : WholeV X w.heap.size 31 [.int .i64 0, .int .i64 0, .slice none 0 0, .slice none 0 0, .int .i64 0, .int .i64 0, .int .u16 0, .int .u16 0, .int .u16 0, .int .i64 0, .int .i64 0, .bool false, .int .i64 0, .slice none 0 0] := by rw [← hX]; exact G2.out
  have hxb : Below w.heap.size w X := by rw [← hX]; exact GB.out
  rw [hX]
  obtain ⟨w9, hw9⟩ : ∃ w9, ((((((((((((((X.setCell ⟨w.heap.size, 0, none⟩ (.int .i64 43)).setCell ⟨w.heap.size, 1, none⟩ (.int .i64 0)).setCell ⟨w.heap.size, 2, none⟩ (.slice none 0 0)).setCell ⟨w.heap.size, 3, none⟩ (.slice none 0 0)).setCell ⟨w.heap.size, 4, none⟩ (.int .i64 0)).setCell ⟨w.heap.size, 5, none⟩ (.int .i64 0)).setCell ⟨w.heap.size, 6, none⟩ (.int .u16 0)).setCell ⟨w.heap.size, 7, none⟩ (.int .u16 0)).setCell ⟨w.heap.size, 8, none⟩ (.int .u16 0)).setCell ⟨w.heap.size, 9, none⟩ (.int .i64 0)).setCell ⟨w.heap.size, 10, none⟩ (.int .i64 0)).setCell ⟨w.heap.size, 11, none⟩ (.bool false)).setCell ⟨w.heap.size, 12, none⟩ (.int .i64 0)).setCell ⟨w.heap.size, 13, none⟩ (.slice none 0 0)) = w9 := ⟨_, rfl⟩
  have hwh := all14 hx0 (.int .i64 43) (.int .i64 0) (.slice none 0 0) (.slice none 0 0) (.int .i64 0) (.int .i64 0) (.int .u16 0) (.int .u16 0) (.int .u16 0) (.int .i64 0) (.int .i64 0) (.bool false) (.int .i64 0) (.slice none 0 0) rfl
  have hbb := bel14 hxb (.int .i64 43) (.int .i64 0) (.slice none 0 0) (.slice none 0 0) (.int .i64 0) (.int .i64 0) (.int .u16 0) (.int .u16 0) (.int .u16 0) (.int .i64 0) (.int .i64 0) (.bool false) (.int .i64 0) (.slice none 0 0)
  rw [hw9] at hwh hbb
  rw [hw9]
  obtain ⟨he0, he1, he2, he3, he4, he5, he6, he7, he8, he9, he10, he11, he12, he13⟩ := cells14 hwh
  have hz9 := hwh.lt
  exact bodyPost_ret (v := .tuple #[.agg #[.int .i64 43, .int .i64 0, .slice none 0 0, .slice none 0 0, .int .i64 0, .int .i64 0, .int .u16 0, .int .u16 0, .int .u16 0, .int .i64 0, .int .i64 0, .bool false, .int .i64 0, .slice none 0 0], .bool false]) (by simp [results, Try.results78, go_sem, hz9, he0, he1, he2, he3, he4, he5, he6, he7, he8, he9, he10, he11, he12, he13]) rfl ⟨rfl, hbb⟩

set_option maxRecDepth 100000 in
set_option maxHeartbeats 4000000 in
theorem told_no1 (b off n c : Nat) (zs : List Int) (z1 : Int) (w : World) (hr : Row .u8 w w.heap.size (some ⟨b, off, none⟩) n zs) (hx : Bytes8 zs) (hn : n ≤ 1000) (h1n : 1 ≤ n) (h0 : zs.getD 0 0 = 43) (hc : n ≤ c) (h7 : 7 ≤ n) (hy1 : zs.getD 1 0 = z1) (hno : (z1 != 14) = true) :
    Calls Try.prog 78 #[.slice (some ⟨b, off, none⟩) n c] w fun e w' => e = .returned (.tuple #[.agg #[.int .i64 43, .int .i64 0, .slice none 0 0, .slice none 0 0, .int .i64 0, .int .i64 0, .int .u16 0, .int .u16 0, .int .u16 0, .int .i64 0, .int .i64 0, .bool false, .int .i64 0, .slice none 0 0], .bool false]) ∧ Below w.heap.size w w' := by
  obtain ⟨b', off', e1, hb, hcell⟩ := hr.2 (by omega)
  injection e1 with e1
  injection e1 with e1 e2
  subst e1 e2
  have hkw1 : Below w.heap.size w (w.alloc (.cells #[.int .i64 0, .int .i64 0, .slice none 0 0, .slice none 0 0, .int .i64 0, .int .i64 0, .int .u16 0, .int .u16 0, .int .u16 0, .int .i64 0, .int .i64 0, .bool false, .int .i64 0, .slice none 0 0] 31)) := (Below.refl _ _).alloc (Nat.le_refl _) _
  have hkw : Below w.heap.size w ((w.alloc (.cells #[.int .i64 0, .int .i64 0, .slice none 0 0, .slice none 0 0, .int .i64 0, .int .i64 0, .int .u16 0, .int .u16 0, .int .u16 0, .int .i64 0, .int .i64 0, .bool false, .int .i64 0, .slice none 0 0] 31)).alloc (.cells #[.int .i64 43, .int .i64 0, .slice none 0 0, .slice none 0 0, .int .i64 0, .int .i64 0, .int .u16 0, .int .u16 0, .int .u16 0, .int .i64 0, .int .i64 0, .bool false, .int .i64 0, .slice none 0 0] 31)) := ((Below.refl _ _).alloc (Nat.le_refl _) _).alloc (by simp) _
  have HCE := Lib.hid (fun X (hX : Below w.heap.size w X) j (hj : j < n) => (hX.cell (p := ⟨b, off + j, none⟩) hb).trans (hcell j hj))
  have HRG := Lib.hid (fun X (hX : Below w.heap.size w X) => (hr.below hX).more hX.size)
  have HX := Lib.hid hx
  have HKW := Lib.hid hkw
  have HG4 : Hid (WholeV ((w.alloc (.cells #[.int .i64 0, .int .i64 0, .slice none 0 0, .slice none 0 0, .int .i64 0, .int .i64 0, .int .u16 0, .int .u16 0, .int .u16 0, .int .i64 0, .int .i64 0, .bool false, .int .i64 0, .slice none 0 0] 31)).alloc (.cells #[.int .i64 43, .int .i64 0, .slice none 0 0, .slice none 0 0, .int .i64 0, .int .i64 0, .int .u16 0, .int .u16 0, .int .u16 0, .int .i64 0, .int .i64 0, .bool false, .int .i64 0, .slice none 0 0] 31)) (w.heap.size + 1) 31 [.int .i64 43, .int .i64 0, .slice none 0 0, .slice none 0 0, .int .i64 0, .int .i64 0, .int .u16 0, .int .u16 0, .int .u16 0, .int .i64 0, .int .i64 0, .bool false, .int .i64 0, .slice none 0 0]) := by
    have h := heap_alloc_new (w.alloc (.cells #[.int .i64 0, .int .i64 0, .slice none 0 0, .slice none 0 0, .int .i64 0, .int .i64 0, .int .u16 0, .int .u16 0, .int .u16 0, .int .i64 0, .int .i64 0, .bool false, .int .i64 0, .slice none 0 0] 31)) (.cells #[.int .i64 43, .int .i64 0, .slice none 0 0, .slice none 0 0, .int .i64 0, .int .i64 0, .int .u16 0, .int .u16 0, .int .u16 0, .int .i64 0, .int .i64 0, .bool false, .int .i64 0, .slice none 0 0] 31)
    rwa [show (w.alloc (.cells #[.int .i64 0, .int .i64 0, .slice none 0 0, .slice none 0 0, .int .i64 0, .int .i64 0, .int .u16 0, .int .u16 0, .int .u16 0, .int .i64 0, .int .i64 0, .bool false, .int .i64 0, .slice none 0 0] 31)).heap.size = w.heap.size + 1 by simp] at h
  have HG2 : Hid (WholeV ((w.alloc (.cells #[.int .i64 0, .int .i64 0, .slice none 0 0, .slice none 0 0, .int .i64 0, .int .i64 0, .int .u16 0, .int .u16 0, .int .u16 0, .int .i64 0, .int .i64 0, .bool false, .int .i64 0, .slice none 0 0] 31)).alloc (.cells #[.int .i64 43, .int .i64 0, .slice none 0 0, .slice none 0 0, .int .i64 0, .int .i64 0, .int .u16 0, .int .u16 0, .int .u16 0, .int .i64 0, .int .i64 0, .bool false, .int .i64 0, .slice none 0 0] 31)) w.heap.size 31 [.int .i64 0, .int .i64 0, .slice none 0 0, .slice none 0 0, .int .i64 0, .int .i64 0, .int .u16 0, .int .u16 0, .int .u16 0, .int .i64 0, .int .i64 0, .bool false, .int .i64 0, .slice none 0 0]) := by
    have h : WholeV (w.alloc (.cells #[.int .i64 0, .int .i64 0, .slice none 0 0, .slice none 0 0, .int .i64 0, .int .i64 0, .int .u16 0, .int .u16 0, .int .u16 0, .int .i64 0, .int .i64 0, .bool false, .int .i64 0, .slice none 0 0] 31)) w.heap.size 31 [.int .i64 0, .int .i64 0, .slice none 0 0, .slice none 0 0, .int .i64 0, .int .i64 0, .int .u16 0, .int .u16 0, .int .u16 0, .int .i64 0, .int .i64 0, .bool false, .int .i64 0, .slice none 0 0] := heap_alloc_new w _
    exact h.below ((Below.refl _ _).alloc (Nat.le_refl _) _) (by simp)
  have hn0 : (0 : Int) < (n : Int) := by omega
  have hl7 : ¬ (n : Int) < 7 := by omega
  have i1 : (1 : Int) < (n : Int) := by omega
  have j1 : 1 < n := by omega
  have i2 : (2 : Int) < (n : Int) := by omega
  have j2 : 2 < n := by omega
  have i3 : (3 : Int) < (n : Int) := by omega
  have j3 : 3 < n := by omega
  have i4 : (4 : Int) < (n : Int) := by omega
  have j4 : 4 < n := by omega
  have i5 : (5 : Int) < (n : Int) := by omega
  have j5 : 5 < n := by omega
  have i6 : (6 : Int) < (n : Int) := by omega
  have j6 : 6 < n := by omega
  have H0 := Lib.hid h0
  clear hr hcell hkw hkw1 h0
  go_enter Try.func78, Try.ntmps78
  go_upto_region 2 with fail
  obtain ⟨w3, hw3⟩ : ∃ w3, ((w.alloc (.cells #[.int .i64 0, .int .i64 0, .slice none 0 0, .slice none 0 0, .int .i64 0, .int .i64 0, .int .u16 0, .int .u16 0, .int .u16 0, .int .i64 0, .int .i64 0, .bool false, .int .i64 0, .slice none 0 0] 31)).alloc (.cells #[.int .i64 43, .int .i64 0, .slice none 0 0, .slice none 0 0, .int .i64 0, .int .i64 0, .int .u16 0, .int .u16 0, .int .u16 0, .int .i64 0, .int .i64 0, .bool false, .int .i64 0, .slice none 0 0] 31)) = w3 := ⟨_, rfl⟩
  have G4 : Hid (WholeV w3 (w.heap.size + 1) 31 [.int .i64 43, .int .i64 0, .slice none 0 0, .slice none 0 0, .int .i64 0, .int .i64 0, .int .u16 0, .int .u16 0, .int .u16 0, .int .i64 0, .int .i64 0, .bool false, .int .i64 0, .slice none 0 0]) := by rw [← hw3]; exact HG4.out
  have G2 : Hid (WholeV w3 w.heap.size 31 [.int .i64 0, .int .i64 0, .slice none 0 0, .slice none 0 0, .int .i64 0, .int .i64 0, .int .u16 0, .int .u16 0, .int .u16 0, .int .i64 0, .int .i64 0, .bool false, .int .i64 0, .slice none 0 0]) := by rw [← hw3]; exact HG2.out
  have GB : Hid (Below w.heap.size w w3) := by rw [← hw3]; exact HKW.out
  have hz3 : w.heap.size + 1 < w3.heap.size := G4.out.lt
  obtain ⟨hs0, hs1, hs2, hs3, hs4, hs5, hs6, hs7, hs8, hs9, hs10, hs11, hs12, hs13⟩ := cells14 G4.out
  obtain ⟨hp0, hp1, hp2, hp3, hp4, hp5, hp6, hp7, hp8, hp9, hp10, hp11, hp12, hp13⟩ := cells14 G2.out
  have hf0 := G4.out.frozen 0
  have hf1 := G4.out.frozen 1
  have hf2 := G4.out.frozen 2
  have hf3 := G4.out.frozen 3
  have hf4 := G4.out.frozen 4
  have hf5 := G4.out.frozen 5
  have hf6 := G4.out.frozen 6
  have hf7 := G4.out.frozen 7
  have hf8 := G4.out.frozen 8
  have hf9 := G4.out.frozen 9
  have hf10 := G4.out.frozen 10
  have hf11 := G4.out.frozen 11
  have hf12 := G4.out.frozen 12
  have hf13 := G4.out.frozen 13
  have hg0 := G2.out.frozen 0
  have hg1 := G2.out.frozen 1
  have hg2 := G2.out.frozen 2
  have hg3 := G2.out.frozen 3
  have hg4 := G2.out.frozen 4
  have hg5 := G2.out.frozen 5
  have hg6 := G2.out.frozen 6
  have hg7 := G2.out.frozen 7
  have hg8 := G2.out.frozen 8
  have hg9 := G2.out.frozen 9
  have hg10 := G2.out.frozen 10
  have hg11 := G2.out.frozen 11
  have hg12 := G2.out.frozen 12
  have hg13 := G2.out.frozen 13
  rw [hw3]
  clear hw3 HG4 HG2 HKW
  have cb1 : w3.cell? ⟨b, off + 1, none⟩ = some (.int .u8 z1) := (HCE.out w3 GB.out 1 (by omega)).trans (by rw [hy1])
  go_wp2_with fail
  obtain ⟨X, hX⟩ : ∃ X, w3 = X := ⟨_, rfl⟩
  have hx0 : WholeV X w.heap.size 31 [.int .i64 0, .int .i64 0, .slice none 0 0, .slice none 0 0, .int .i64 0, .int .i64 0, .int .u16 0, .int .u16 0, .int .u16 0, .int .i64 0, .int .i64 0, .bool false, .int .i64 0, .slice none 0 0] := by rw [← hX]; exact G2.out
  have hxb : Below w.heap.size w X := by rw [← hX]; exact GB.out
  rw [hX]
  obtain ⟨w9, hw9⟩ : ∃ w9, ((((((((((((((X.setCell ⟨w.heap.size, 0, none⟩ (.int .i64 43)).setCell ⟨w.heap.size, 1, none⟩ (.int .i64 0)).setCell ⟨w.heap.size, 2, none⟩ (.slice none 0 0)).setCell ⟨w.heap.size, 3, none⟩ (.slice none 0 0)).setCell ⟨w.heap.size, 4, none⟩ (.int .i64 0)).setCell ⟨w.heap.size, 5, none⟩ (.int .i64 0)).setCell ⟨w.heap.size, 6, none⟩ (.int .u16 0)).setCell ⟨w.heap.size, 7, none⟩ (.int .u16 0)).setCell ⟨w.heap.size, 8, none⟩ (.int .u16 0)).setCell ⟨w.heap.size, 9, none⟩ (.int .i64 0)).setCell ⟨w.heap.size, 10, none⟩ (.int .i64 0)).setCell ⟨w.heap.size, 11, none⟩ (.bool false)).setCell ⟨w.heap.size, 12, none⟩ (.int .i64 0)).setCell ⟨w.heap.size, 13, none⟩ (.slice none 0 0)) = w9 := ⟨_, rfl⟩
  have hwh := all14 hx0 (.int .i64 43) (.int .i64 0) (.slice none 0 0) (.slice none 0 0) (.int .i64 0) (.int .i64 0) (.int .u16 0) (.int .u16 0) (.int .u16 0) (.int .i64 0) (.int .i64 0) (.bool false) (.int .i64 0) (.slice none 0 0) rfl
  have hbb := bel14 hxb (.int .i64 43) (.int .i64 0) (.slice none 0 0) (.slice none 0 0) (.int .i64 0) (.int .i64 0) (.int .u16 0) (.int .u16 0) (.int .u16 0) (.int .i64 0) (.int .i64 0) (.bool false) (.int .i64 0) (.slice none 0 0)
  rw [hw9] at hwh hbb
  rw [hw9]
  obtain ⟨he0, he1, he2, he3, he4, he5, he6, he7, he8, he9, he10, he11, he12, he13⟩ := cells14 hwh
  have hz9 := hwh.lt
  exact bodyPost_ret (v := .tuple #[.agg #[.int .i64 43, .int .i64 0, .slice none 0 0, .slice none 0 0, .int .i64 0, .int .i64 0, .int .u16 0, .int .u16 0, .int .u16 0, .int .i64 0, .int .i64 0, .bool false, .int .i64 0, .slice none 0 0], .bool false]) (by simp [results, Try.results78, go_sem, hz9, he0, he1, he2, he3, he4, he5, he6, he7, he8, he9, he10, he11, he12, he13]) rfl ⟨rfl, hbb⟩

set_option maxRecDepth 100000 in
set_option maxHeartbeats 4000000 in
theorem told_no4 (b off n c : Nat) (zs : List Int) (z1 z4 : Int) (w : World) (hr : Row .u8 w w.heap.size (some ⟨b, off, none⟩) n zs) (hx : Bytes8 zs) (hn : n ≤ 1000) (h1n : 1 ≤ n) (h0 : zs.getD 0 0 = 43) (hc : n ≤ c) (h7 : 7 ≤ n) (hy1 : zs.getD 1 0 = z1) (hy4 : zs.getD 4 0 = z4) (hyes : (z1 != 14) = false) (hno0 : (z4 != 0) = true) (hno5 : (z4 != 255) = true) :
    Calls Try.prog 78 #[.slice (some ⟨b, off, none⟩) n c] w fun e w' => e = .returned (.tuple #[.agg #[.int .i64 43, .int .i64 0, .slice none 0 0, .slice none 0 0, .int .i64 0, .int .i64 0, .int .u16 0, .int .u16 0, .int .u16 0, .int .i64 0, .int .i64 0, .bool false, .int .i64 0, .slice none 0 0], .bool false]) ∧ Below w.heap.size w w' := by
  obtain ⟨b', off', e1, hb, hcell⟩ := hr.2 (by omega)
  injection e1 with e1
  injection e1 with e1 e2
  subst e1 e2
  have hkw1 : Below w.heap.size w (w.alloc (.cells #[.int .i64 0, .int .i64 0, .slice none 0 0, .slice none 0 0, .int .i64 0, .int .i64 0, .int .u16 0, .int .u16 0, .int .u16 0, .int .i64 0, .int .i64 0, .bool false, .int .i64 0, .slice none 0 0] 31)) := (Below.refl _ _).alloc (Nat.le_refl _) _
  have hkw : Below w.heap.size w ((w.alloc (.cells #[.int .i64 0, .int .i64 0, .slice none 0 0, .slice none 0 0, .int .i64 0, .int .i64 0, .int .u16 0, .int .u16 0, .int .u16 0, .int .i64 0, .int .i64 0, .bool false, .int .i64 0, .slice none 0 0] 31)).alloc (.cells #[.int .i64 43, .int .i64 0, .slice none 0 0, .slice none 0 0, .int .i64 0, .int .i64 0, .int .u16 0, .int .u16 0, .int .u16 0, .int .i64 0, .int .i64 0, .bool false, .int .i64 0, .slice none 0 0] 31)) := ((Below.refl _ _).alloc (Nat.le_refl _) _).alloc (by simp) _
  have HCE := Lib.hid (fun X (hX : Below w.heap.size w X) j (hj : j < n) => (hX.cell (p := ⟨b, off + j, none⟩) hb).trans (hcell j hj))
  have HRG := Lib.hid (fun X (hX : Below w.heap.size w X) => (hr.below hX).more hX.size)
  have HX := Lib.hid hx
  have HKW := Lib.hid hkw
  have HG4 : Hid (WholeV ((w.alloc (.cells #[.int .i64 0, .int .i64 0, .slice none 0 0, .slice none 0 0, .int .i64 0, .int .i64 0, .int .u16 0, .int .u16 0, .int .u16 0, .int .i64 0, .int .i64 0, .bool false, .int .i64 0, .slice none 0 0] 31)).alloc (.cells #[.int .i64 43, .int .i64 0, .slice none 0 0, .slice none 0 0, .int .i64 0, .int .i64 0, .int .u16 0, .int .u16 0, .int .u16 0, .int .i64 0, .int .i64 0, .bool false, .int .i64 0, .slice none 0 0] 31)) (w.heap.size + 1) 31 [.int .i64 43, .int .i64 0, .slice none 0 0, .slice none 0 0, .int .i64 0, .int .i64 0, .int .u16 0, .int .u16 0, .int .u16 0, .int .i64 0, .int .i64 0, .bool false, .int .i64 0, .slice none 0 0]) := by
    have h := heap_alloc_new (w.alloc (.cells #[.int .i64 0, .int .i64 0, .slice none 0 0, .slice none 0 0, .int .i64 0, .int .i64 0, .int .u16 0, .int .u16 0, .int .u16 0, .int .i64 0, .int .i64 0, .bool false, .int .i64 0, .slice none 0 0] 31)) (.cells #[.int .i64 43, .int .i64 0, .slice none 0 0, .slice none 0 0, .int .i64 0, .int .i64 0, .int .u16 0, .int .u16 0, .int .u16 0, .int .i64 0, .int .i64 0, .bool false, .int .i64 0, .slice none 0 0] 31)
    rwa [show (w.alloc (.cells #[.int .i64 0, .int .i64 0, .slice none 0 0, .slice none 0 0, .int .i64 0, .int .i64 0, .int .u16 0, .int .u16 0, .int .u16 0, .int .i64 0, .int .i64 0, .bool false, .int .i64 0, .slice none 0 0] 31)).heap.size = w.heap.size + 1 by simp] at h
  have HG2 : Hid (WholeV ((w.alloc (.cells #[.int .i64 0, .int .i64 0, .slice none 0 0, .slice none 0 0, .int .i64 0, .int .i64 0, .int .u16 0, .int .u16 0, .int .u16 0, .int .i64 0, .int .i64 0, .bool false, .int .i64 0, .slice none 0 0] 31)).alloc (.cells #[.int .i64 43, .int .i64 0, .slice none 0 0, .slice none 0 0, .int .i64 0, .int .i64 0, .int .u16 0, .int .u16 0, .int .u16 0, .int .i64 0, .int .i64 0, .bool false, .int .i64 0, .slice none 0 0] 31)) w.heap.size 31 [.int .i64 0, .int .i64 0, .slice none 0 0, .slice none 0 0, .int .i64 0, .int .i64 0, .int .u16 0, .int .u16 0, .int .u16 0, .int .i64 0, .int .i64 0, .bool false, .int .i64 0, .slice none 0 0]) := by
    have h : WholeV (w.alloc (.cells #[.int .i64 0, .int .i64 0, .slice none 0 0, .slice none 0 0, .int .i64 0, .int .i64 0, .int .u16 0, .int .u16 0, .int .u16 0, .int .i64 0, .int .i64 0, .bool false, .int .i64 0, .slice none 0 0] 31)) w.heap.size 31 [.int .i64 0, .int .i64 0, .slice none 0 0, .slice none 0 0, .int .i64 0, .int .i64 0, .int .u16 0, .int .u16 0, .int .u16 0, .int .i64 0, .int .i64 0, .bool false, .int .i64 0, .slice none 0 0] := heap_alloc_new w _
    exact h.below ((Below.refl _ _).alloc (Nat.le_refl _) _) (by simp)
  have hn0 : (0 : Int) < (n : Int) := by omega
  have hl7 : ¬ (n : Int) < 7 := by omega
  have i1 : (1 : Int) < (n : Int) := by omega
  have j1 : 1 < n := by omega
  have i2 : (2 : Int) < (n : Int) := by omega
  have j2 : 2 < n := by omega
  have i3 : (3 : Int) < (n : Int) := by omega
  have j3 : 3 < n := by omega
  have i4 : (4 : Int) < (n : Int) := by omega
  have j4 : 4 < n := by omega
  have i5 : (5 : Int) < (n : Int) := by omega
  have j5 : 5 < n := by omega
  have i6 : (6 : Int) < (n : Int) := by omega
  have j6 : 6 < n := by omega
  have H0 := Lib.hid h0
  clear hr hcell hkw hkw1 h0
  go_enter Try.func78, Try.ntmps78
  go_upto_region 2 with fail
  obtain ⟨w3, hw3⟩ : ∃ w3, ((w.alloc (.cells #[.int .i64 0, .int .i64 0, .slice none 0 0, .slice none 0 0, .int .i64 0, .int .i64 0, .int .u16 0, .int .u16 0, .int .u16 0, .int .i64 0, .int .i64 0, .bool false, .int .i64 0, .slice none 0 0] 31)).alloc (.cells #[.int .i64 43, .int .i64 0, .slice none 0 0, .slice none 0 0, .int .i64 0, .int .i64 0, .int .u16 0, .int .u16 0, .int .u16 0, .int .i64 0, .int .i64 0, .bool false, .int .i64 0, .slice none 0 0] 31)) = w3 := ⟨_, rfl⟩
  have G4 : Hid (WholeV w3 (w.heap.size + 1) 31 [.int .i64 43, .int .i64 0, .slice none 0 0, .slice none 0 0, .int .i64 0, .int .i64 0, .int .u16 0, .int .u16 0, .int .u16 0, .int .i64 0, .int .i64 0, .bool false, .int .i64 0, .slice none 0 0]) := by rw [← hw3]; exact HG4.out
  have G2 : Hid (WholeV w3 w.heap.size 31 [.int .i64 0, .int .i64 0, .slice none 0 0, .slice none 0 0, .int .i64 0, .int .i64 0, .int .u16 0, .int .u16 0, .int .u16 0, .int .i64 0, .int .i64 0, .bool false, .int .i64 0, .slice none 0 0]) := by rw [← hw3]; exact HG2.out
  have GB : Hid (Below w.heap.size w w3) := by rw [← hw3]; exact HKW.out
  have hz3 : w.heap.size + 1 < w3.heap.size := G4.out.lt
  obtain ⟨hs0, hs1, hs2, hs3, hs4, hs5, hs6, hs7, hs8, hs9, hs10, hs11, hs12, hs13⟩ := cells14 G4.out
  obtain ⟨hp0, hp1, hp2, hp3, hp4, hp5, hp6, hp7, hp8, hp9, hp10, hp11, hp12, hp13⟩ := cells14 G2.out
  have hf0 := G4.out.frozen 0
  have hf1 := G4.out.frozen 1
  have hf2 := G4.out.frozen 2
  have hf3 := G4.out.frozen 3
  have hf4 := G4.out.frozen 4
  have hf5 := G4.out.frozen 5
  have hf6 := G4.out.frozen 6
  have hf7 := G4.out.frozen 7
  have hf8 := G4.out.frozen 8
  have hf9 := G4.out.frozen 9
  have hf10 := G4.out.frozen 10
  have hf11 := G4.out.frozen 11
  have hf12 := G4.out.frozen 12
  have hf13 := G4.out.frozen 13
  have hg0 := G2.out.frozen 0
  have hg1 := G2.out.frozen 1
  have hg2 := G2.out.frozen 2
  have hg3 := G2.out.frozen 3
  have hg4 := G2.out.frozen 4
  have hg5 := G2.out.frozen 5
  have hg6 := G2.out.frozen 6
  have hg7 := G2.out.frozen 7
  have hg8 := G2.out.frozen 8
  have hg9 := G2.out.frozen 9
  have hg10 := G2.out.frozen 10
  have hg11 := G2.out.frozen 11
  have hg12 := G2.out.frozen 12
  have hg13 := G2.out.frozen 13
  rw [hw3]
  clear hw3 HG4 HG2 HKW
  have cb1 : w3.cell? ⟨b, off + 1, none⟩ = some (.int .u8 z1) := (HCE.out w3 GB.out 1 (by omega)).trans (by rw [hy1])
  have cb4 : w3.cell? ⟨b, off + 4, none⟩ = some (.int .u8 z4) := (HCE.out w3 GB.out 4 (by omega)).trans (by rw [hy4])
  go_wp2_with fail
  obtain ⟨X, hX⟩ : ∃ X, w3 = X := ⟨_, rfl⟩
  have hx0 : WholeV X w.heap.size 31 [.int .i64 0, .int .i64 0, .slice none 0 0, .slice none 0 0, .int .i64 0, .int .i64 0, .int .u16 0, .int .u16 0, .int .u16 0, .int .i64 0, .int .i64 0, .bool false, .int .i64 0, .slice none 0 0] := by rw [← hX]; exact G2.out
  have hxb : Below w.heap.size w X := by rw [← hX]; exact GB.out
  rw [hX]
  obtain ⟨w9, hw9⟩ : ∃ w9, ((((((((((((((X.setCell ⟨w.heap.size, 0, none⟩ (.int .i64 43)).setCell ⟨w.heap.size, 1, none⟩ (.int .i64 0)).setCell ⟨w.heap.size, 2, none⟩ (.slice none 0 0)).setCell ⟨w.heap.size, 3, none⟩ (.slice none 0 0)).setCell ⟨w.heap.size, 4, none⟩ (.int .i64 0)).setCell ⟨w.heap.size, 5, none⟩ (.int .i64 0)).setCell ⟨w.heap.size, 6, none⟩ (.int .u16 0)).setCell ⟨w.heap.size, 7, none⟩ (.int .u16 0)).setCell ⟨w.heap.size, 8, none⟩ (.int .u16 0)).setCell ⟨w.heap.size, 9, none⟩ (.int .i64 0)).setCell ⟨w.heap.size, 10, none⟩ (.int .i64 0)).setCell ⟨w.heap.size, 11, none⟩ (.bool false)).setCell ⟨w.heap.size, 12, none⟩ (.int .i64 0)).setCell ⟨w.heap.size, 13, none⟩ (.slice none 0 0)) = w9 := ⟨_, rfl⟩
  have hwh := all14 hx0 (.int .i64 43) (.int .i64 0) (.slice none 0 0) (.slice none 0 0) (.int .i64 0) (.int .i64 0) (.int .u16 0) (.int .u16 0) (.int .u16 0) (.int .i64 0) (.int .i64 0) (.bool false) (.int .i64 0) (.slice none 0 0) rfl
  have hbb := bel14 hxb (.int .i64 43) (.int .i64 0) (.slice none 0 0) (.slice none 0 0) (.int .i64 0) (.int .i64 0) (.int .u16 0) (.int .u16 0) (.int .u16 0) (.int .i64 0) (.int .i64 0) (.bool false) (.int .i64 0) (.slice none 0 0)
  rw [hw9] at hwh hbb
  rw [hw9]
  obtain ⟨he0, he1, he2, he3, he4, he5, he6, he7, he8, he9, he10, he11, he12, he13⟩ := cells14 hwh
  have hz9 := hwh.lt
  exact bodyPost_ret (v := .tuple #[.agg #[.int .i64 43, .int .i64 0, .slice none 0 0, .slice none 0 0, .int .i64 0, .int .i64 0, .int .u16 0, .int .u16 0, .int .u16 0, .int .i64 0, .int .i64 0, .bool false, .int .i64 0, .slice none 0 0], .bool false]) (by simp [results, Try.results78, go_sem, hz9, he0, he1, he2, he3, he4, he5, he6, he7, he8, he9, he10, he11, he12, he13]) rfl ⟨rfl, hbb⟩

end Go.Proofs.Ytokljdkbheogoaa

/- Package desk: what a desk is; its places, set. No statement is proved here. -/
import Derived.Test.YtokljdkbheogoaaOff
import Derived.Deep.MidRow
import Derived.Deep.WholeRow
import Derived.Deep.CutRange
import Derived.ChangeKeysEq
namespace Go.Proofs.Ytokljdkbheogoaa
open Go.ChangeShapes Go.WideShapes Go.ChangeAt Go.RowKit
set_option linter.unusedVariables false
set_option linter.unusedSimpArgs false

theorem WholeV.ranges {w : World} {g : Nat} {t : TypeId} {vs : List Value} (h : WholeV w g t vs) : w.rangeAt g 0 vs := fun j v hv => by rw [Nat.zero_add, h.cell j]; exact hv
theorem WholeV.ranges1 {w : World} {g : Nat} {t : TypeId} {x : Value} {vs : List Value} (h : WholeV w g t (x :: vs)) : w.rangeAt g 1 vs := fun j v hv => by rw [Nat.add_comm, h.cell (j + 1)]; simpa using hv
theorem WholeV.there {w : World} {g : Nat} {t : TypeId} {vs : List Value} (h : WholeV w g t vs) (o n : Nat) (hn : o + n ≤ vs.length) : w.there g o n := fun j hj => ⟨by rw [h.cell, List.getElem?_eq_getElem (by omega)]; rfl, h.frozen _⟩

/-- The values vs laid over those from place o on. -/
def lay : List Value → Nat → List Value → List Value
  | cur, _, [] => cur
  | cur, o, v :: r => lay (cur.set o v) (o + 1) r
theorem lay_all : ∀ (ys pre xs : List Value), xs.length = ys.length → lay (pre ++ xs) pre.length ys = pre ++ ys
  | [], pre, xs, h => by
    obtain rfl : xs = [] := List.eq_nil_of_length_eq_zero h
    rfl
  | y :: ys, pre, [], h => by cases h
  | y :: ys, pre, x :: xs, h => by
    have := lay_all ys (pre ++ [y]) xs (by simpa using h)
    rw [List.length_append] at this
    simp only [lay]
    rw [show (pre ++ x :: xs).set pre.length y = (pre ++ [y]) ++ xs by simp]
    simpa using this
theorem lay_1 (x : Value) (xs ys : List Value) (h : xs.length = ys.length) : lay (x :: xs) 1 ys = x :: ys := lay_all ys [x] xs h
theorem lay_0 (xs ys : List Value) (h : xs.length = ys.length) : lay xs 0 ys = ys := lay_all ys [] xs h
theorem whole_lay {g : Nat} {t : TypeId} : ∀ (vs : List Value) (o : Nat) (w : World) (cur : List Value), WholeV w g t cur → WholeV (w.setCells g o vs) g t (lay cur o vs)
  | [], _, _, _, h => h
  | v :: r, o, w, cur, h => whole_lay r (o + 1) _ _ (h.set o v)
theorem off_lay {g : Nat} {S : Nat → Prop} {a : World} (hg : S g ∨ a.heap.size ≤ g) : ∀ (vs : List Value) (o : Nat) (w : World), Off S a w → Off S a (w.setCells g o vs)
  | [], _, _, h => h
  | v :: r, o, w, h => off_lay hg r (o + 1) _ (h.setCell (p := ⟨g, o, none⟩) hg v)

theorem infoP : (Try.prog.info? 102).map (·.size) = some 32 := by kernel_rfl
theorem ints_one (st : List Int) : (st.map (Value.int .i64)).toArray.all (·.oneCell') = true := all_oneCell_toArray (one_cells .i64 st)

theorem results_cell {fn : Func} {p : Tmp} {ty : TypeId} (h : fn.results = #[.cell p ty]) (tmps : Array Value) (P : Program) (w : World) (a : Addr) (v : Value) (ha : tmps.getD p undef = .pointer (some a)) (hl : (loadVar ty a).run P w = .ok v w) :
    (results fn tmps).run P w = .ok v w := by
  simp only [results, h]
  rw [Array.getD_eq_getD_getElem?] at ha
  simp [Sem.run_bind, Result.andThen, ha, hl, asAddr]

set_option maxRecDepth 100000 in
set_option maxHeartbeats 1000000 in
theorem with_any (st : List Int) (c : Nat) (s : Int) (w : World) (hl : st.length = 32) (hc : c < 32) :
    Calls Try.prog 67 #[.agg (st.map (Value.int .i64)).toArray, .int .i64 (c : Int), .int .i64 s] w fun e w' => e = .returned (.agg ((st.set c s).map (Value.int .i64)).toArray) ∧ Below w.heap.size w w' := by
  obtain ⟨V, hV⟩ : ∃ V, V = (st.map (Value.int .i64)).set c (.int .i64 s) := ⟨_, rfl⟩
  have HV : Hid (V = (st.set c s).map (Value.int .i64)) := hV.trans (List.map_set).symm
  have HL := Lib.hid (show V.length = 32 by rw [HV.out]; simp [hl])
  have HI := Lib.hid (show (Try.prog.info? 102).map (·.size) = some V.length by rw [HL.out]; exact infoP)
  have HI2 := Lib.hid (show (Try.prog.info? 102).map (·.size) = some V.toArray.size by rw [List.size_toArray, HL.out]; exact infoP)
  have H1C := Lib.hid (show V.toArray.all (·.oneCell') = true by rw [HV.out]; exact ints_one _)
  have HVV := Lib.hid hV
  clear hV
  go_enter Try.func67, Try.ntmps67
  go_upto_region 2 with fail
  rw [← HVV.out]
  obtain ⟨Z, hZ⟩ : ∃ Z : List Value, Z = List.replicate 32 (Value.int .i64 0) := ⟨_, rfl⟩
  have HZ := Lib.hid hZ
  rw [show (#[Value.int IntKind.i64 0, Value.int IntKind.i64 0, Value.int IntKind.i64 0, Value.int IntKind.i64 0,
                    Value.int IntKind.i64 0, Value.int IntKind.i64 0, Value.int IntKind.i64 0, Value.int IntKind.i64 0,
                    Value.int IntKind.i64 0, Value.int IntKind.i64 0, Value.int IntKind.i64 0, Value.int IntKind.i64 0,
                    Value.int IntKind.i64 0, Value.int IntKind.i64 0, Value.int IntKind.i64 0, Value.int IntKind.i64 0,
                    Value.int IntKind.i64 0, Value.int IntKind.i64 0, Value.int IntKind.i64 0, Value.int IntKind.i64 0,
                    Value.int IntKind.i64 0, Value.int IntKind.i64 0, Value.int IntKind.i64 0, Value.int IntKind.i64 0,
                    Value.int IntKind.i64 0, Value.int IntKind.i64 0, Value.int IntKind.i64 0, Value.int IntKind.i64 0,
                    Value.int IntKind.i64 0, Value.int IntKind.i64 0, Value.int IntKind.i64 0, Value.int IntKind.i64 0] : Array Value) = Z.toArray by rw [hZ]; rfl]
  clear hZ
  have hw0 := heap_alloc_new w (.cells V.toArray 102)
  have hw1 := heap_alloc_new (w.alloc (.cells V.toArray 102)) (.cells Z.toArray 102)
  have hB : Below w.heap.size w ((w.alloc (.cells V.toArray 102)).alloc (.cells Z.toArray 102)) := ((Below.refl _ _).alloc (Nat.le_refl _) _).alloc (by simp) _
  have hw2 : WholeV ((w.alloc (.cells V.toArray 102)).alloc (.cells Z.toArray 102)) w.heap.size 102 V := (Below.heap_alloc _ _ _ (by simp)).trans hw0
  generalize (w.alloc (.cells V.toArray 102)).alloc (.cells Z.toArray 102) = W at hw1 hB hw2 ⊢
  have H2 := Lib.hid hw2
  have H1 : Hid (WholeV W (w.heap.size + 1) 102 Z) := by
    show W.heap[w.heap.size + 1]? = _
    rw [← hw1]
    simp
  have HB := Lib.hid hB
  clear hw0 hw1 hw2 hB
  have HT : Hid (W.there (w.heap.size + 1) 0 V.toArray.size) := by
    have h32 : V.toArray.size = 32 := by simp [HL.out]
    show W.there _ _ _
    rw [h32]
    exact H1.out.there 0 32 (by simp [HZ.out])
  go_wp2_with (first
    | (with_reducible refine wpList_load_mid (op := ⟨some 10, _, _, _, _, _⟩) rfl 102 (.tmp 3) rfl w.heap.size 0 rfl V (.array 32 3) H2.out.ranges Try.underlying102 rfl HI.out ?_)
    | (with_reducible refine wpList_store_mid rfl 102 (.tmp 6) (.tmp 10) rfl (w.heap.size + 1) 0 V.toArray rfl rfl HT.out HI2.out H1C.out ?_))
  have HW : Hid (WholeV (W.setCells (w.heap.size + 1) 0 V.toArray.toList) (w.heap.size + 1) 102 V) := by
    have h := whole_lay V 0 W Z H1.out
    rwa [lay_0 _ _ (by rw [HL.out, HZ.out]; simp)] at h
  have HB2 : Hid (Below w.heap.size w (W.setCells (w.heap.size + 1) 0 V.toArray.toList)) := (off_lay (S := fun _ => False) (.inr (Nat.le_succ _)) _ _ _ (Off.of_below HB.out)).below (Nat.le_refl _) (fun _ _ => id)
  refine bodyPost_ret (v := .agg V.toArray) ?_ rfl ⟨by rw [HV.out], HB2.out⟩
  have hld := run_loadVar_mid (P := Try.prog) _ (w.heap.size + 1) 0 102 V (.array 32 3) HW.out.ranges Try.underlying102 rfl HI.out
  exact results_cell Try.results67 _ _ _ _ _ rfl hld

end Go.Proofs.Ytokljdkbheogoaa

/- Joined: Cell7 CellD. -/
import Derived.Test.YtielfekkonflfaaJMTellFits5
import Derived.Test.YtielfekkonflfaaJTellBack2
import Derived.Test.YtielfekkonflfaaJTellBack5
import Derived.Deep.CutBlock
import Derived.Deep.RegionLaw
import Derived.Test.YtielfekkonflfaaAskBox
namespace Go.Proofs.Ytielfekkonflfaa
open Go.ChangeShapes Go.WideShapes Go.ChangeAt Go.RowKit
set_option linter.unusedVariables false
set_option linter.unusedSimpArgs false

def ShownW (fn : Int) (n : Nat) (zs : List Int) (w : World) (e : Ending) (w' : World) : Prop :=
  ∃ WA wc, e = .returned (.agg #[.int .i64 fn, .int .i64 0, .slice none 0 0, .slice WA n wc, .int .i64 0, .int .i64 0, .int .u16 0, .int .u16 0, .int .u16 0, .int .i64 0, .int .i64 0, .bool false, .int .i64 0, .slice none 0 0]) ∧ w'.ownsRow w.heap.size 25 1 (.slice WA n wc) n (zs.map (Value.int .u16)) ∧ Below w.heap.size w w'
def ShownB (fn : Int) (n : Nat) (w : World) (e : Ending) (w' : World) : Prop :=
  ∃ (BA : Option Addr) (bc : Nat) (bs : List Bool), e = .returned (.agg #[.int .i64 fn, .int .i64 0, .slice BA n bc, .slice none 0 0, .int .i64 0, .int .i64 0, .int .u16 0, .int .u16 0, .int .u16 0, .int .i64 0, .int .i64 0, .bool false, .int .i64 0, .slice none 0 0]) ∧ bs.length = n ∧ w'.ownsRow w.heap.size 4 1 (.slice BA n bc) n (bs.map Value.bool) ∧ Below w.heap.size w w'

/-- Three boxes, one behind the other. -/
theorem box3x (w : World) (T U : TypeId) (vs us xs : List Value) : Below w.heap.size w (((w.alloc (.cells vs.toArray T)).alloc (.cells us.toArray U)).alloc (.cells xs.toArray U)) ∧
    WholeV (((w.alloc (.cells vs.toArray T)).alloc (.cells us.toArray U)).alloc (.cells xs.toArray U)) w.heap.size T vs ∧ WholeV (((w.alloc (.cells vs.toArray T)).alloc (.cells us.toArray U)).alloc (.cells xs.toArray U)) (w.heap.size + 1) U us ∧ WholeV (((w.alloc (.cells vs.toArray T)).alloc (.cells us.toArray U)).alloc (.cells xs.toArray U)) (w.heap.size + 2) U xs := by
  have h1 : WholeV (w.alloc (.cells vs.toArray T)) w.heap.size T vs := heap_alloc_new w _
  have h2 : WholeV ((w.alloc (.cells vs.toArray T)).alloc (.cells us.toArray U)) (w.alloc (.cells vs.toArray T)).heap.size U us := heap_alloc_new _ _
  have h3 : WholeV (((w.alloc (.cells vs.toArray T)).alloc (.cells us.toArray U)).alloc (.cells xs.toArray U)) ((w.alloc (.cells vs.toArray T)).alloc (.cells us.toArray U)).heap.size U xs := heap_alloc_new _ _
  have hb3 : Below ((w.alloc (.cells vs.toArray T)).alloc (.cells us.toArray U)).heap.size ((w.alloc (.cells vs.toArray T)).alloc (.cells us.toArray U)) (((w.alloc (.cells vs.toArray T)).alloc (.cells us.toArray U)).alloc (.cells xs.toArray U)) := (Below.refl _ _).alloc (Nat.le_refl _) _
  have hb2 : Below (w.alloc (.cells vs.toArray T)).heap.size (w.alloc (.cells vs.toArray T)) ((w.alloc (.cells vs.toArray T)).alloc (.cells us.toArray U)) := (Below.refl _ _).alloc (Nat.le_refl _) _
  have e1 : (w.alloc (.cells vs.toArray T)).heap.size = w.heap.size + 1 := by simp
  have e2 : ((w.alloc (.cells vs.toArray T)).alloc (.cells us.toArray U)).heap.size = w.heap.size + 2 := by simp
  refine ⟨(((Below.refl _ _).alloc (Nat.le_refl _) _).alloc (by simp) _).alloc (by simp; omega) _, (h1.below hb2 h1.lt).below hb3 (Nat.lt_of_lt_of_le h1.lt hb2.size), ?_, ?_⟩
  · have h := h2.below hb3 h2.lt
    rwa [e1] at h
  · rwa [e2] at h3

set_option maxRecDepth 100000 in
set_option maxHeartbeats 2000000 in
theorem shown_w (fn at_ n v an orr : Int) (bl wl : Nat) (ra rn co ob : Int) (BA WA : Option Addr) (bc wc : Nat) (A : Option Addr) (m c : Nat) (zs : List Int) (w : World) (h1 : ¬ fn = 1) (h2 : ¬ fn = 2) (hr : Row .u16 w w.heap.size A m zs) (hm : m ≤ 3000) :
    Calls Try.prog 47 #[.agg #[.int .i64 fn, .int .i64 at_, .int .i64 n, .int .u16 v, .int .u16 an, .int .u16 orr, .slice BA bl bc, .slice WA wl wc, .int .i64 ra, .int .i64 rn, .int .i64 co, .int .i64 ob], .slice A m c] w (ShownW fn m zs w) := by
  obtain ⟨W, hW⟩ : ∃ W, ((w.alloc (.cells #[.int .i64 fn, .int .i64 at_, .int .i64 n, .int .u16 v, .int .u16 an, .int .u16 orr, .slice BA bl bc, .slice WA wl wc, .int .i64 ra, .int .i64 rn, .int .i64 co, .int .i64 ob] 48)).alloc (.cells #[.int .i64 0, .int .i64 0, .slice none 0 0, .slice none 0 0, .int .i64 0, .int .i64 0, .int .u16 0, .int .u16 0, .int .u16 0, .int .i64 0, .int .i64 0, .bool false, .int .i64 0, .slice none 0 0] 28)).alloc (.cells #[.int .i64 fn, .int .i64 0, .slice none 0 0, .slice none 0 0, .int .i64 0, .int .i64 0, .int .u16 0, .int .u16 0, .int .u16 0, .int .i64 0, .int .i64 0, .bool false, .int .i64 0, .slice none 0 0] 28) = W := ⟨_, rfl⟩
  obtain ⟨hkw, hA, hR, hT⟩ := box3x w 48 28 [.int .i64 fn, .int .i64 at_, .int .i64 n, .int .u16 v, .int .u16 an, .int .u16 orr, .slice BA bl bc, .slice WA wl wc, .int .i64 ra, .int .i64 rn, .int .i64 co, .int .i64 ob] [.int .i64 0, .int .i64 0, .slice none 0 0, .slice none 0 0, .int .i64 0, .int .i64 0, .int .u16 0, .int .u16 0, .int .u16 0, .int .i64 0, .int .i64 0, .bool false, .int .i64 0, .slice none 0 0] [.int .i64 fn, .int .i64 0, .slice none 0 0, .slice none 0 0, .int .i64 0, .int .i64 0, .int .u16 0, .int .u16 0, .int .u16 0, .int .i64 0, .int .i64 0, .bool false, .int .i64 0, .slice none 0 0]
  rw [show (((w.alloc (.cells (List.toArray [.int .i64 fn, .int .i64 at_, .int .i64 n, .int .u16 v, .int .u16 an, .int .u16 orr, .slice BA bl bc, .slice WA wl wc, .int .i64 ra, .int .i64 rn, .int .i64 co, .int .i64 ob]) 48)).alloc (.cells (List.toArray [.int .i64 0, .int .i64 0, .slice none 0 0, .slice none 0 0, .int .i64 0, .int .i64 0, .int .u16 0, .int .u16 0, .int .u16 0, .int .i64 0, .int .i64 0, .bool false, .int .i64 0, .slice none 0 0]) 28)).alloc (.cells (List.toArray [.int .i64 fn, .int .i64 0, .slice none 0 0, .slice none 0 0, .int .i64 0, .int .i64 0, .int .u16 0, .int .u16 0, .int .u16 0, .int .i64 0, .int .i64 0, .bool false, .int .i64 0, .slice none 0 0]) 28)) = W from hW] at hkw hA hR hT
  have hsz : w.heap.size + 2 < W.heap.size := hT.lt
  have hb1 : (fn != 1) = true := by simpa using h1
  have hb2 : (fn != 2) = true := by simpa using h2
  have HR := Lib.hid hr
  obtain ⟨hp0, hp1, hp2, hp3, hp4, hp5, hp6, hp7, hp8, hp9, hp10, hp11, hp12, hp13⟩ := cells14 hT
  have ha0 : W.cell? ⟨w.heap.size, 0, none⟩ = some (.int .i64 fn) := hA.cell 0
  have HKW := Lib.hid hkw
  have HRB := Lib.hid hR
  have HTB := Lib.hid hT
  have HRV : Hid (RowV W W.heap.size A m (zs.map (Value.int .u16))) := ((hr.below hkw).more hkw.size).v
  have HSZ : Hid (w.heap.size + 3 ≤ W.heap.size) := hsz
  clear hkw hA hR hT hr hp0 hp1 hp2 hp3 hp4 hp5 hp6 hp7 hp8 hp9 hp10 hp11 hp12 hp13
  have HW := Lib.hid hW
  clear hW
  go_enter Try.func47, Try.ntmps47
  go_upto_region 2 with fail
  rw [HW.out]
  go_wp2_with (first
    | (at_builtin; (with_reducible show wpList Try.prog _ _ ((⟨some 19, _, _, _, _, _⟩ : Oper) :: _) _ _); refine wpList_append_row _ (o := ⟨some 19, _, _, _, _, _⟩) rfl _ _ 22 rfl (w.heap.size + 3) 25 (.int .u16 0) 2 Try.underlying22 infoU rfl (.slice none 0 0) 0 [] rfl (own_none _ _ _) W.heap.size A m c _ rfl HRV.out (one_cells _ _) (by omega) (by omega) HSZ.out ?_
       intro v5 w5 hown5 hg5 _
       rw [Nat.zero_add, List.nil_append] at hown5
       obtain ⟨A5, c5, rfl⟩ := own_slice hown5
       have hb5 : Below W.heap.size W w5 := (Below.refl _ _).grown hg5 (Nat.le_refl _) (by intro q hq; simp [Value.ownBlock] at hq)
       have h5t := HTB.out.below hb5 hsz
       have h5r := HRB.out.below hb5 (by omega)
       obtain ⟨hs0, hs1, hs2, hs3, hs4, hs5, hs6, hs7, hs8, hs9, hs10, hs11, hs12, hs13⟩ := cells14 h5t
       obtain ⟨hf0, hf1, hf2, hf3, hf4, hf5, hf6, hf7, hf8, hf9, hf10, hf11, hf12, hf13⟩ := frozen14 h5t
       obtain ⟨hp0, hp1, hp2, hp3, hp4, hp5, hp6, hp7, hp8, hp9, hp10, hp11, hp12, hp13⟩ := cells14 h5r
       obtain ⟨hg0, hg1, hg2, hg3, hg4, hg5', hg6, hg7, hg8, hg9, hg10, hg11, hg12, hg13⟩ := frozen14 h5r
       have H5R := Lib.hid h5r
       have HO5 := Lib.hid hown5
       have HB5 := Lib.hid (HKW.out.trans (hb5.mono HKW.out.size))
       have hz5 : w.heap.size + 2 < w5.heap.size := h5t.lt
       clear h5t h5r hown5 hg5 hb5))
  obtain ⟨X, hX⟩ : ∃ X, (w5.setCell ⟨w.heap.size + 2, 3, none⟩ (.slice A5 m c5)) = X := ⟨_, rfl⟩
  have hx0 := whole_far H5R.out (show w.heap.size + 1 ≠ w.heap.size + 2 by omega) 3 (.slice A5 m c5)
  have hxb := HB5.out.setCell (p := ⟨w.heap.size + 2, 3, none⟩) (Nat.le_trans (Nat.le_succ _) (Nat.le_succ _)) (.slice A5 m c5)
  have hxk := own_far HO5.out ⟨w.heap.size + 2, 3, none⟩ (Nat.lt_succ_self _) (.slice A5 m c5)
  rw [hX] at hx0 hxb hxk
  rw [hX]
  exact end14s Try.results47 hx0 rfl hxb (Nat.le_succ _) rfl fun w9 hbb hk => ⟨A5, c5, rfl, own_mono (own_blk hxk hk (show w.heap.size + 1 < w.heap.size + 3 by omega)) (by omega), hbb⟩

/-- A row of bools of the call's own, whatever they are. -/
def BO (w : World) (base : Nat) (v : Value) (n : Nat) : Prop := ∃ bs : List Bool, bs.length = n ∧ w.ownsRow base 4 1 v n (bs.map Value.bool)
theorem BO.nil (w : World) (base : Nat) : BO w base (.slice none 0 0) 0 := ⟨[], rfl, own_none _ _ _⟩
theorem BO.keep {w w' : World} {b : Nat} {v : Value} {n : Nat} (h : BO w b v n) (hb : Below w.heap.size w w') : BO w' b v n := by
  obtain ⟨zs, h2, h3⟩ := h
  exact ⟨zs, h2, own_keep h3 hb⟩
theorem BO.far {w : World} {b : Nat} {v : Value} {n : Nat} (h : BO w b v n) (p : Addr) (hp : p.block < b) (u : Value) : BO (w.setCell p u) b v n := by
  obtain ⟨zs, h2, h3⟩ := h
  exact ⟨zs, h2, own_far h3 p hp u⟩
theorem below_bo {B : Nat} {w w0 w' : World} {v : Value} {n : Nat} (hb : Below B w0 w) (h : BO w B v n) (hg : w.grownBy w' v.ownBlock) (hB : B ≤ w.heap.size) : Below B w0 w' := by
  obtain ⟨zs, h2, h3⟩ := h
  exact below_append hb h3 hg hB
theorem infoBo : (Try.prog.info? 4).map (fun i => (i.zero, i.size, i.bytes)) = some (some (.bool false), 1, 1) := by kernel_rfl
theorem row_bit (W : World) (x : Bool) (T : TypeId) : RowV (W.alloc (.cells #[.bool x] T)) (W.alloc (.cells #[.bool x] T)).heap.size (some ⟨W.heap.size, 0, none⟩) 1 [.bool x] := (show WholeV (W.alloc (.cells #[.bool x] T)) W.heap.size T [.bool x] from heap_alloc_new W _).row
theorem step_append_bit {w : World} {ops : Array Oper} {o : Oper} {a : Act} {K : Act → World → Prop} {Q : Exit → Act → World → Prop} {E : Prop} (s x : Operand)
    (base : Nat) (v : Value) (n : Nat) (g : Nat) (y : Bool) (hn : n ≤ 100000)
    (ho : o.guard = none ∧ o.op = .call { callee := .builtin .append, args := #[s, x], argTypes := #[23, 23] } ∧ a.eval s = v)
    (hown : BO w base v n) (hr : ∃ A c, a.eval x = .slice A 1 c ∧ RowV w w.heap.size A 1 [.bool y]) (hbase : base ≤ w.heap.size)
    (h : ∀ A' c' w', BO w' base (.slice A' (n + 1) c') (n + 1) → w.grownBy w' v.ownBlock → K (a.put o.dst (.slice A' (n + 1) c')) w') :
    if Region.wanted o (yielded ops a.tmps) = true then Oper.wp Try.prog o a w K Q else E := by
  obtain ⟨bs, hl, hown⟩ := hown
  refine step_append_row (P := Try.prog) s x 23 base 4 (.bool false) 1 Try.underlying23 infoBo rfl v n (bs.map Value.bool) 1 [.bool y] (by simp [Value.oneCell']) (by omega) (by omega) ho hown hr hbase fun A' c' w' h1 h2 => h A' c' w' ⟨bs ++ [y], by simp [hl], by rw [List.map_append]; exact h1⟩ h2

set_option maxRecDepth 100000 in
set_option maxHeartbeats 4000000 in
theorem shown_b (fn at_ n v an orr : Int) (bl wl : Nat) (ra rn co ob : Int) (BA WA : Option Addr) (bc wc : Nat) (A : Option Addr) (m c : Nat) (zs : List Int) (w : World) (h1 : fn = 1 ∨ fn = 2) (hr : Row .u16 w w.heap.size A m zs) (hz : Words zs) (hm : m ≤ 3000) :
    Calls Try.prog 47 #[.agg #[.int .i64 fn, .int .i64 at_, .int .i64 n, .int .u16 v, .int .u16 an, .int .u16 orr, .slice BA bl bc, .slice WA wl wc, .int .i64 ra, .int .i64 rn, .int .i64 co, .int .i64 ob], .slice A m c] w (ShownB fn m w) := by
  obtain ⟨W, hW⟩ : ∃ W, ((w.alloc (.cells #[.int .i64 fn, .int .i64 at_, .int .i64 n, .int .u16 v, .int .u16 an, .int .u16 orr, .slice BA bl bc, .slice WA wl wc, .int .i64 ra, .int .i64 rn, .int .i64 co, .int .i64 ob] 48)).alloc (.cells #[.int .i64 0, .int .i64 0, .slice none 0 0, .slice none 0 0, .int .i64 0, .int .i64 0, .int .u16 0, .int .u16 0, .int .u16 0, .int .i64 0, .int .i64 0, .bool false, .int .i64 0, .slice none 0 0] 28)).alloc (.cells #[.int .i64 fn, .int .i64 0, .slice none 0 0, .slice none 0 0, .int .i64 0, .int .i64 0, .int .u16 0, .int .u16 0, .int .u16 0, .int .i64 0, .int .i64 0, .bool false, .int .i64 0, .slice none 0 0] 28) = W := ⟨_, rfl⟩
  obtain ⟨hkw, hA, hR, hT⟩ := box3x w 48 28 [.int .i64 fn, .int .i64 at_, .int .i64 n, .int .u16 v, .int .u16 an, .int .u16 orr, .slice BA bl bc, .slice WA wl wc, .int .i64 ra, .int .i64 rn, .int .i64 co, .int .i64 ob] [.int .i64 0, .int .i64 0, .slice none 0 0, .slice none 0 0, .int .i64 0, .int .i64 0, .int .u16 0, .int .u16 0, .int .u16 0, .int .i64 0, .int .i64 0, .bool false, .int .i64 0, .slice none 0 0] [.int .i64 fn, .int .i64 0, .slice none 0 0, .slice none 0 0, .int .i64 0, .int .i64 0, .int .u16 0, .int .u16 0, .int .u16 0, .int .i64 0, .int .i64 0, .bool false, .int .i64 0, .slice none 0 0]
  rw [show (((w.alloc (.cells (List.toArray [.int .i64 fn, .int .i64 at_, .int .i64 n, .int .u16 v, .int .u16 an, .int .u16 orr, .slice BA bl bc, .slice WA wl wc, .int .i64 ra, .int .i64 rn, .int .i64 co, .int .i64 ob]) 48)).alloc (.cells (List.toArray [.int .i64 0, .int .i64 0, .slice none 0 0, .slice none 0 0, .int .i64 0, .int .i64 0, .int .u16 0, .int .u16 0, .int .u16 0, .int .i64 0, .int .i64 0, .bool false, .int .i64 0, .slice none 0 0]) 28)).alloc (.cells (List.toArray [.int .i64 fn, .int .i64 0, .slice none 0 0, .slice none 0 0, .int .i64 0, .int .i64 0, .int .u16 0, .int .u16 0, .int .u16 0, .int .i64 0, .int .i64 0, .bool false, .int .i64 0, .slice none 0 0]) 28)) = W from hW] at hkw hA hR hT
  have hsz : w.heap.size + 2 < W.heap.size := hT.lt
  have HR := Lib.hid hr
  have HZ := Lib.hid hz
  have ha0 : W.cell? ⟨w.heap.size, 0, none⟩ = some (.int .i64 fn) := hA.cell 0
  have HKW := Lib.hid hkw
  have HRB := Lib.hid hR
  have HTB := Lib.hid hT
  have HSZ : Hid (w.heap.size + 3 ≤ W.heap.size) := hsz
  clear hkw hA hR hT hr hz
  have HW := Lib.hid hW
  clear hW
  have HF := Lib.hid h1
  go_enter Try.func47, Try.ntmps47
  go_upto_region 2 with fail
  rw [HW.out]
  have hnn : ¬ (¬ fn = 1 ∧ ¬ fn = 2) := by omega
  rcases h1 with rfl | rfl
  · go_wp2
    go_loopw [6] (fun i wr => ∃ (k : Nat) (BX : Option Addr) (bx : Nat), k ≤ m ∧ i = .int .i64 (k : Int) ∧ Hid (BO wr (w.heap.size + 3) (.slice BX k bx) k) ∧ Hid (Below w.heap.size w wr) ∧ Hid (WholeV wr (w.heap.size + 1) 28 [.int .i64 0, .int .i64 0, .slice none 0 0, .slice none 0 0, .int .i64 0, .int .i64 0, .int .u16 0, .int .u16 0, .int .u16 0, .int .i64 0, .int .i64 0, .bool false, .int .i64 0, .slice none 0 0]) ∧ Hid (∃ f : Int, f = 1 ∧ WholeV wr (w.heap.size + 2) 28 [.int .i64 f, .int .i64 0, .slice BX k bx, .slice none 0 0, .int .i64 0, .int .i64 0, .int .u16 0, .int .u16 0, .int .u16 0, .int .i64 0, .int .i64 0, .bool false, .int .i64 0, .slice none 0 0])) (fun i _ => m - (intOf i).toNat)
    case atStart => exact ⟨0, none, 0, by omega, rfl, Lib.hid (BO.nil _ _), HKW, HRB, Lib.hid ⟨_, rfl, HTB.out⟩⟩
    case round =>
      obtain ⟨k, BX, bx, hkm, rfl, HO, HB, HRr, HTr⟩ := hrel
      obtain ⟨f, rfl, hTr⟩ := HTr.out
      have hT' := Lib.hid hTr
      have hRr := HRr.out
      have hszr : w.heap.size + 2 < wr.heap.size := hTr.lt
      obtain ⟨hs0, hs1, hs2, hs3, hs4, hs5, hs6, hs7, hs8, hs9, hs10, hs11, hs12, hs13⟩ := cells14 hTr
      obtain ⟨hf0, hf1, hf2, hf3, hf4, hf5, hf6, hf7, hf8, hf9, hf10, hf11, hf12, hf13⟩ := frozen14 hTr
      by_cases hlt : k < m
      · have hlt' : (k : Int) < (m : Int) := by omega
        have hk0 : (0 : Int) ≤ (k : Int) := by omega
        obtain ⟨b, off, hA, hb, hc⟩ := (HR.out.below HB.out).2 (by omega)
        subst hA
        have hck := hc k hlt
        obtain ⟨x, hx⟩ : ∃ x, zs.getD k 0 = x := ⟨_, rfl⟩
        rw [hx] at hck
        have hx2 : 0 ≤ x ∧ x ≤ 65535 := by rw [← hx]; exact words_at HZ.out k (by rw [HR.out.1]; exact hlt)
        clear hc hb hx hRr hTr
        obtain ⟨y, hy⟩ : ∃ y : Bool, decide (¬ x = 0) = y := ⟨_, rfl⟩
        have hgr : Below wr.heap.size wr (wr.alloc (.cells #[.bool y] 4)).drew := ((Below.refl _ _).alloc (Nat.le_refl _) _).drew
        have HOA : Hid (BO (wr.alloc (.cells #[.bool y] 4)).drew (w.heap.size + 3) (.slice BX k bx) k) := HO.out.keep hgr
        have HRA : Hid (RowV (wr.alloc (.cells #[.bool y] 4)).drew (wr.alloc (.cells #[.bool y] 4)).drew.heap.size (some ⟨wr.heap.size, 0, none⟩) 1 [.bool y]) := row_bit wr y _
        have HSA : Hid (w.heap.size + 3 ≤ (wr.alloc (.cells #[.bool y] 4)).drew.heap.size) := Nat.le_trans hszr hgr.size
        have HGR := Lib.hid hgr
        have HBX : Hid (Below (w.heap.size + 3) wr (wr.alloc (.cells #[.bool y] 4)).drew) := hgr.mono hszr
        have hk3 : k ≤ 3000 := by omega
        clear hgr
        have hxy : (x = 0 ∧ y = false) ∨ (¬ x = 0 ∧ y = true) := by
          by_cases h : x = 0
          · exact .inl ⟨h, by rw [← hy]; simp [h]⟩
          · exact .inr ⟨h, by rw [← hy]; simp [h]⟩
        clear hy
        rcases hxy with ⟨rfl, rfl⟩ | ⟨hx0, rfl⟩
        · go_wp2
          go_region_law (first
            | (refine step_append_bit (.tmp 29) (.tmp 35) (w.heap.size + 3) (.slice BX k bx) k wr.heap.size false (by omega) ⟨rfl, rfl, (by first | rfl | (simp [eval_put_tmp, size_put]; done) | (simp [eval_put_tmp, size_put]; simp [Act.eval]; done) | (simp [Act.eval]; done))⟩ HOA.out ⟨some ⟨wr.heap.size, 0, none⟩, 1, (by first | rfl | (simp [eval_put_tmp, size_put]; done) | (simp [eval_put_tmp, size_put]; simp [Act.eval]; done) | (simp [Act.eval]; done)), HRA.out⟩ HSA.out ?_
               intro A6 c6 w6 hown6 hg6
               have hb6 := below_bo HBX.out HOA.out hg6 HSA.out
               have hT6 := hT'.out.below hb6 (show w.heap.size + 2 < w.heap.size + 3 by omega)
               have e2 := hT6.cell 2
               have e3 := hT6.frozen 2
               have NT : Hid (∃ f : Int, f = 1 ∧ WholeV (w6.setCell ⟨w.heap.size + 2, 2, none⟩ (.slice A6 (k + 1) c6)) (w.heap.size + 2) 28 [.int .i64 f, .int .i64 0, .slice A6 (k + 1) c6, .slice none 0 0, .int .i64 0, .int .i64 0, .int .u16 0, .int .u16 0, .int .u16 0, .int .i64 0, .int .i64 0, .bool false, .int .i64 0, .slice none 0 0]) := ⟨_, rfl, hT6.set 2 (.slice A6 (k + 1) c6)⟩
               have NR := Lib.hid (whole_far (HRr.out.below hb6 (show w.heap.size + 1 < w.heap.size + 3 by omega)) (show w.heap.size + 1 ≠ w.heap.size + 2 by omega) 2 (.slice A6 (k + 1) c6))
               have NB := Lib.hid ((HB.out.trans (hb6.mono (show w.heap.size ≤ w.heap.size + 3 by omega))).setCell (p := ⟨w.heap.size + 2, 2, none⟩) (Nat.le_trans (Nat.le_succ _) (Nat.le_succ _)) (.slice A6 (k + 1) c6))
               have NO := Lib.hid (hown6.far ⟨w.heap.size + 2, 2, none⟩ (Nat.lt_succ_self _) (.slice A6 (k + 1) c6))
               clear hown6 hg6 hb6 hT6))
          all_goals
            go_wp2
            go_roundw
            case rel => exact ⟨k + 1, A6, c6, by omega, rfl, NO, NB, NR, NT⟩
            case measure => simp [intOf]; omega
        · have hxb : (x != 0) = true := by simpa using hx0
          go_wp2
          go_region_law (first
            | (refine step_append_bit (.tmp 29) (.tmp 35) (w.heap.size + 3) (.slice BX k bx) k wr.heap.size true (by omega) ⟨rfl, rfl, (by first | rfl | (simp [eval_put_tmp, size_put]; done) | (simp [eval_put_tmp, size_put]; simp [Act.eval]; done) | (simp [Act.eval]; done))⟩ HOA.out ⟨some ⟨wr.heap.size, 0, none⟩, 1, (by first | rfl | (simp [eval_put_tmp, size_put]; done) | (simp [eval_put_tmp, size_put]; simp [Act.eval]; done) | (simp [Act.eval]; done)), HRA.out⟩ HSA.out ?_
               intro A6 c6 w6 hown6 hg6
               have hb6 := below_bo HBX.out HOA.out hg6 HSA.out
               have hT6 := hT'.out.below hb6 (show w.heap.size + 2 < w.heap.size + 3 by omega)
               have e2 := hT6.cell 2
               have e3 := hT6.frozen 2
               have NT : Hid (∃ f : Int, f = 1 ∧ WholeV (w6.setCell ⟨w.heap.size + 2, 2, none⟩ (.slice A6 (k + 1) c6)) (w.heap.size + 2) 28 [.int .i64 f, .int .i64 0, .slice A6 (k + 1) c6, .slice none 0 0, .int .i64 0, .int .i64 0, .int .u16 0, .int .u16 0, .int .u16 0, .int .i64 0, .int .i64 0, .bool false, .int .i64 0, .slice none 0 0]) := ⟨_, rfl, hT6.set 2 (.slice A6 (k + 1) c6)⟩
               have NR := Lib.hid (whole_far (HRr.out.below hb6 (show w.heap.size + 1 < w.heap.size + 3 by omega)) (show w.heap.size + 1 ≠ w.heap.size + 2 by omega) 2 (.slice A6 (k + 1) c6))
               have NB := Lib.hid ((HB.out.trans (hb6.mono (show w.heap.size ≤ w.heap.size + 3 by omega))).setCell (p := ⟨w.heap.size + 2, 2, none⟩) (Nat.le_trans (Nat.le_succ _) (Nat.le_succ _)) (.slice A6 (k + 1) c6))
               have NO := Lib.hid (hown6.far ⟨w.heap.size + 2, 2, none⟩ (Nat.lt_succ_self _) (.slice A6 (k + 1) c6))
               clear hown6 hg6 hb6 hT6))
          all_goals
            go_wp2
            go_roundw
            case rel => exact ⟨k + 1, A6, c6, by omega, rfl, NO, NB, NR, NT⟩
            case measure => simp [intOf]; omega
      · have hge : ¬ (k : Int) < (m : Int) := by omega
        obtain rfl : k = m := by omega
        obtain ⟨hp0, hp1, hp2, hp3, hp4, hp5, hp6, hp7, hp8, hp9, hp10, hp11, hp12, hp13⟩ := cells14 hRr
        obtain ⟨hg0, hg1, hg2, hg3, hg4, hg5, hg6, hg7, hg8, hg9, hg10, hg11, hg12, hg13⟩ := frozen14 hRr
        obtain ⟨bs, hbl, hbo⟩ := HO.out
        have HBO := Lib.hid hbo
        clear hbo hRr hTr
        go_wp2
        exact end14s Try.results47 HRr.out rfl HB.out (Nat.le_succ _) rfl fun w9 hbb hk => ⟨BX, bx, bs, rfl, hbl, own_mono (own_blk HBO.out hk (show w.heap.size + 1 < w.heap.size + 3 by omega)) (by omega), hbb⟩
  · go_wp2
    go_loopw [6] (fun i wr => ∃ (k : Nat) (BX : Option Addr) (bx : Nat), k ≤ m ∧ i = .int .i64 (k : Int) ∧ Hid (BO wr (w.heap.size + 3) (.slice BX k bx) k) ∧ Hid (Below w.heap.size w wr) ∧ Hid (WholeV wr (w.heap.size + 1) 28 [.int .i64 0, .int .i64 0, .slice none 0 0, .slice none 0 0, .int .i64 0, .int .i64 0, .int .u16 0, .int .u16 0, .int .u16 0, .int .i64 0, .int .i64 0, .bool false, .int .i64 0, .slice none 0 0]) ∧ Hid (∃ f : Int, f = 2 ∧ WholeV wr (w.heap.size + 2) 28 [.int .i64 f, .int .i64 0, .slice BX k bx, .slice none 0 0, .int .i64 0, .int .i64 0, .int .u16 0, .int .u16 0, .int .u16 0, .int .i64 0, .int .i64 0, .bool false, .int .i64 0, .slice none 0 0])) (fun i _ => m - (intOf i).toNat)
    case atStart => exact ⟨0, none, 0, by omega, rfl, Lib.hid (BO.nil _ _), HKW, HRB, Lib.hid ⟨_, rfl, HTB.out⟩⟩
    case round =>
      obtain ⟨k, BX, bx, hkm, rfl, HO, HB, HRr, HTr⟩ := hrel
      obtain ⟨f, rfl, hTr⟩ := HTr.out
      have hT' := Lib.hid hTr
      have hRr := HRr.out
      have hszr : w.heap.size + 2 < wr.heap.size := hTr.lt
      obtain ⟨hs0, hs1, hs2, hs3, hs4, hs5, hs6, hs7, hs8, hs9, hs10, hs11, hs12, hs13⟩ := cells14 hTr
      obtain ⟨hf0, hf1, hf2, hf3, hf4, hf5, hf6, hf7, hf8, hf9, hf10, hf11, hf12, hf13⟩ := frozen14 hTr
      by_cases hlt : k < m
      · have hlt' : (k : Int) < (m : Int) := by omega
        have hk0 : (0 : Int) ≤ (k : Int) := by omega
        obtain ⟨b, off, hA, hb, hc⟩ := (HR.out.below HB.out).2 (by omega)
        subst hA
        have hck := hc k hlt
        obtain ⟨x, hx⟩ : ∃ x, zs.getD k 0 = x := ⟨_, rfl⟩
        rw [hx] at hck
        have hx2 : 0 ≤ x ∧ x ≤ 65535 := by rw [← hx]; exact words_at HZ.out k (by rw [HR.out.1]; exact hlt)
        clear hc hb hx hRr hTr
        obtain ⟨y, hy⟩ : ∃ y : Bool, decide (¬ x = 0) = y := ⟨_, rfl⟩
        have hgr : Below wr.heap.size wr (wr.alloc (.cells #[.bool y] 4)).drew := ((Below.refl _ _).alloc (Nat.le_refl _) _).drew
        have HOA : Hid (BO (wr.alloc (.cells #[.bool y] 4)).drew (w.heap.size + 3) (.slice BX k bx) k) := HO.out.keep hgr
        have HRA : Hid (RowV (wr.alloc (.cells #[.bool y] 4)).drew (wr.alloc (.cells #[.bool y] 4)).drew.heap.size (some ⟨wr.heap.size, 0, none⟩) 1 [.bool y]) := row_bit wr y _
        have HSA : Hid (w.heap.size + 3 ≤ (wr.alloc (.cells #[.bool y] 4)).drew.heap.size) := Nat.le_trans hszr hgr.size
        have HGR := Lib.hid hgr
        have HBX : Hid (Below (w.heap.size + 3) wr (wr.alloc (.cells #[.bool y] 4)).drew) := hgr.mono hszr
        have hk3 : k ≤ 3000 := by omega
        clear hgr
        have hxy : (x = 0 ∧ y = false) ∨ (¬ x = 0 ∧ y = true) := by
          by_cases h : x = 0
          · exact .inl ⟨h, by rw [← hy]; simp [h]⟩
          · exact .inr ⟨h, by rw [← hy]; simp [h]⟩
        clear hy
        rcases hxy with ⟨rfl, rfl⟩ | ⟨hx0, rfl⟩
        · go_wp2
          go_region_law (first
            | (refine step_append_bit (.tmp 29) (.tmp 35) (w.heap.size + 3) (.slice BX k bx) k wr.heap.size false (by omega) ⟨rfl, rfl, (by first | rfl | (simp [eval_put_tmp, size_put]; done) | (simp [eval_put_tmp, size_put]; simp [Act.eval]; done) | (simp [Act.eval]; done))⟩ HOA.out ⟨some ⟨wr.heap.size, 0, none⟩, 1, (by first | rfl | (simp [eval_put_tmp, size_put]; done) | (simp [eval_put_tmp, size_put]; simp [Act.eval]; done) | (simp [Act.eval]; done)), HRA.out⟩ HSA.out ?_
               intro A6 c6 w6 hown6 hg6
               have hb6 := below_bo HBX.out HOA.out hg6 HSA.out
               have hT6 := hT'.out.below hb6 (show w.heap.size + 2 < w.heap.size + 3 by omega)
               have e2 := hT6.cell 2
               have e3 := hT6.frozen 2
               have NT : Hid (∃ f : Int, f = 2 ∧ WholeV (w6.setCell ⟨w.heap.size + 2, 2, none⟩ (.slice A6 (k + 1) c6)) (w.heap.size + 2) 28 [.int .i64 f, .int .i64 0, .slice A6 (k + 1) c6, .slice none 0 0, .int .i64 0, .int .i64 0, .int .u16 0, .int .u16 0, .int .u16 0, .int .i64 0, .int .i64 0, .bool false, .int .i64 0, .slice none 0 0]) := ⟨_, rfl, hT6.set 2 (.slice A6 (k + 1) c6)⟩
               have NR := Lib.hid (whole_far (HRr.out.below hb6 (show w.heap.size + 1 < w.heap.size + 3 by omega)) (show w.heap.size + 1 ≠ w.heap.size + 2 by omega) 2 (.slice A6 (k + 1) c6))
               have NB := Lib.hid ((HB.out.trans (hb6.mono (show w.heap.size ≤ w.heap.size + 3 by omega))).setCell (p := ⟨w.heap.size + 2, 2, none⟩) (Nat.le_trans (Nat.le_succ _) (Nat.le_succ _)) (.slice A6 (k + 1) c6))
               have NO := Lib.hid (hown6.far ⟨w.heap.size + 2, 2, none⟩ (Nat.lt_succ_self _) (.slice A6 (k + 1) c6))
               clear hown6 hg6 hb6 hT6))
          all_goals
            go_wp2
            go_roundw
            case rel => exact ⟨k + 1, A6, c6, by omega, rfl, NO, NB, NR, NT⟩
            case measure => simp [intOf]; omega
        · have hxb : (x != 0) = true := by simpa using hx0
          go_wp2
          go_region_law (first
            | (refine step_append_bit (.tmp 29) (.tmp 35) (w.heap.size + 3) (.slice BX k bx) k wr.heap.size true (by omega) ⟨rfl, rfl, (by first | rfl | (simp [eval_put_tmp, size_put]; done) | (simp [eval_put_tmp, size_put]; simp [Act.eval]; done) | (simp [Act.eval]; done))⟩ HOA.out ⟨some ⟨wr.heap.size, 0, none⟩, 1, (by first | rfl | (simp [eval_put_tmp, size_put]; done) | (simp [eval_put_tmp, size_put]; simp [Act.eval]; done) | (simp [Act.eval]; done)), HRA.out⟩ HSA.out ?_
               intro A6 c6 w6 hown6 hg6
               have hb6 := below_bo HBX.out HOA.out hg6 HSA.out
               have hT6 := hT'.out.below hb6 (show w.heap.size + 2 < w.heap.size + 3 by omega)
               have e2 := hT6.cell 2
               have e3 := hT6.frozen 2
               have NT : Hid (∃ f : Int, f = 2 ∧ WholeV (w6.setCell ⟨w.heap.size + 2, 2, none⟩ (.slice A6 (k + 1) c6)) (w.heap.size + 2) 28 [.int .i64 f, .int .i64 0, .slice A6 (k + 1) c6, .slice none 0 0, .int .i64 0, .int .i64 0, .int .u16 0, .int .u16 0, .int .u16 0, .int .i64 0, .int .i64 0, .bool false, .int .i64 0, .slice none 0 0]) := ⟨_, rfl, hT6.set 2 (.slice A6 (k + 1) c6)⟩
               have NR := Lib.hid (whole_far (HRr.out.below hb6 (show w.heap.size + 1 < w.heap.size + 3 by omega)) (show w.heap.size + 1 ≠ w.heap.size + 2 by omega) 2 (.slice A6 (k + 1) c6))
               have NB := Lib.hid ((HB.out.trans (hb6.mono (show w.heap.size ≤ w.heap.size + 3 by omega))).setCell (p := ⟨w.heap.size + 2, 2, none⟩) (Nat.le_trans (Nat.le_succ _) (Nat.le_succ _)) (.slice A6 (k + 1) c6))
               have NO := Lib.hid (hown6.far ⟨w.heap.size + 2, 2, none⟩ (Nat.lt_succ_self _) (.slice A6 (k + 1) c6))
               clear hown6 hg6 hb6 hT6))
          all_goals
            go_wp2
            go_roundw
            case rel => exact ⟨k + 1, A6, c6, by omega, rfl, NO, NB, NR, NT⟩
            case measure => simp [intOf]; omega
      · have hge : ¬ (k : Int) < (m : Int) := by omega
        obtain rfl : k = m := by omega
        obtain ⟨hp0, hp1, hp2, hp3, hp4, hp5, hp6, hp7, hp8, hp9, hp10, hp11, hp12, hp13⟩ := cells14 hRr
        obtain ⟨hg0, hg1, hg2, hg3, hg4, hg5, hg6, hg7, hg8, hg9, hg10, hg11, hg12, hg13⟩ := frozen14 hRr
        obtain ⟨bs, hbl, hbo⟩ := HO.out
        have HBO := Lib.hid hbo
        clear hbo hRr hTr
        go_wp2
        exact end14s Try.results47 HRr.out rfl HB.out (Nat.le_succ _) rfl fun w9 hbb hk => ⟨BX, bx, bs, rfl, hbl, own_mono (own_blk HBO.out hk (show w.heap.size + 1 < w.heap.size + 3 by omega)) (by omega), hbb⟩

/-- Nothing was done. -/
def DoNo (g : Nat) (w : World) (e : Ending) (w' : World) : Prop := e = .returned (.tuple #[.agg #[.int .i64 0, .int .i64 0, .slice none 0 0, .slice none 0 0, .int .i64 0, .int .i64 0, .int .u16 0, .int .u16 0, .int .u16 0, .int .i64 0, .int .i64 0, .bool false, .int .i64 0, .slice none 0 0], .bool false]) ∧ Off (fun k => k = g) w w'
/-- An echo. -/
def DoE (g : Nat) (f at_ n v x o : Int) (w : World) (e : Ending) (w' : World) : Prop := DoNo g w e w' ∨ (e = .returned (.tuple #[.agg #[.int .i64 f, .int .i64 0, .slice none 0 0, .slice none 0 0, .int .i64 at_, .int .i64 n, .int .u16 v, .int .u16 x, .int .u16 o, .int .i64 0, .int .i64 0, .bool false, .int .i64 0, .slice none 0 0], .bool true]) ∧ Off (fun k => k = g) w w')
def DoW (g : Nat) (f : Int) (m : Nat) (w : World) (e : Ending) (w' : World) : Prop := DoNo g w e w' ∨ ∃ (WA : Option Addr) (wc : Nat) (zs : List Int), e = .returned (.tuple #[.agg #[.int .i64 f, .int .i64 0, .slice none 0 0, .slice WA m wc, .int .i64 0, .int .i64 0, .int .u16 0, .int .u16 0, .int .u16 0, .int .i64 0, .int .i64 0, .bool false, .int .i64 0, .slice none 0 0], .bool true]) ∧ Words zs ∧ zs.length = m ∧ Row .u16 w' w'.heap.size WA m zs ∧ Off (fun k => k = g) w w'
def DoB (g : Nat) (f : Int) (m : Nat) (w : World) (e : Ending) (w' : World) : Prop := DoNo g w e w' ∨ ∃ (BA : Option Addr) (bc : Nat) (bs : List Bool), e = .returned (.tuple #[.agg #[.int .i64 f, .int .i64 0, .slice BA m bc, .slice none 0 0, .int .i64 0, .int .i64 0, .int .u16 0, .int .u16 0, .int .u16 0, .int .i64 0, .int .i64 0, .bool false, .int .i64 0, .slice none 0 0], .bool true]) ∧ bs.length = m ∧ BRow w' w'.heap.size BA m bs ∧ Off (fun k => k = g) w w'

theorem Off.thenB {S : Nat → Prop} {a b c : World} {B : Nat} (h : Off S a b) (k : Below B b c) (hB : a.heap.size ≤ B) : Off S a c :=
  ⟨k.os.trans h.os, k.tape.trans h.tape, k.output.trans h.output, Nat.le_trans h.size k.size, fun i hi hs => (k.block i (by omega)).trans (h.block i hi hs)⟩
theorem row_ne {w : World} {g : Nat} {T : TypeId} {A : Option Addr} {m : Nat} {o : Int × Int × Int} {L : Option Addr} {n c : Nat} (h : WholeV w g T [.slice L n c]) (k : OneRow w A m (some o)) : m = 1 ∧ ∃ b, A = some ⟨b, 0, none⟩ ∧ b ≠ g ∧ b < w.heap.size ∧ w.cell? ⟨b, 0, none⟩ = some (.int .i64 o.1) ∧ w.cell? ⟨b, 1, none⟩ = some (.int .i64 o.2.1) ∧ w.cell? ⟨b, 2, none⟩ = some (.int .i64 o.2.2) := by
  obtain ⟨t, f, u⟩ := o
  obtain ⟨h1, b, h2, h3, h4, h5, h6⟩ := k
  refine ⟨h1, b, h2, fun e => ?_, h3, h4, h5, h6⟩
  subst e
  have h7 := h.cell 0
  rw [h4] at h7
  cases h7

end Go.Proofs.Ytielfekkonflfaa

/- Joined: Cell5 Cell6. -/
import Derived.Test.YtielfekkonflfaaJMTellFits3
import Derived.Test.YtielfekkonflfaaAskRight
import Derived.Deep.RegionLaw
import Derived.Test.YtielfekkonflfaaJMTellFits4
import Derived.Test.YtielfekkonflfaaPOr
namespace Go.Proofs.Ytielfekkonflfaa
open Go.ChangeShapes Go.WideShapes Go.ChangeAt Go.RowKit
set_option linter.unusedVariables false
set_option linter.unusedSimpArgs false

theorem words_at {zs : List Int} (h : Words zs) (k : Nat) (hk : k < zs.length) : 0 ≤ zs.getD k 0 ∧ zs.getD k 0 ≤ 65535 := by
  have e : zs.getD k 0 = zs[k] := by simp [hk]
  rw [e]
  have := h _ (List.getElem_mem hk)
  omega

set_option maxRecDepth 100000 in
set_option maxHeartbeats 2000000 in
theorem lay_any (t a : Int) (A : Option Addr) (n c : Nat) (zs : List Int) (w : World) (ha : 0 ≤ a ∧ a ≤ 65536) (hr : Row .u16 w w.heap.size A n zs) (hz : Words zs) (hn : n ≤ 3000) :
    Calls Try.prog 74 #[.agg #[.int .i64 t, .int .i64 a], .slice A n c] w (NewCells n w) := by
  obtain ⟨W0, hW0⟩ : ∃ W0, w.alloc (.cells #[.int .i64 t, .int .i64 a] 70) = W0 := ⟨_, rfl⟩
  have hk : Below w.heap.size w W0 := by rw [← hW0]; exact (Below.refl _ _).alloc (Nat.le_refl _) _
  have h0 : WholeV W0 w.heap.size 70 [.int .i64 t, .int .i64 a] := by rw [← hW0]; exact heap_alloc_new w _
  have H0 := Lib.hid h0
  have HK := Lib.hid hk
  have HR := Lib.hid hr
  have HZ := Lib.hid hz
  obtain ⟨ha0, ha1⟩ := ha
  clear h0 hk hr hz
  go_enter Try.func74, Try.ntmps74
  go_wp2
  go_loopw [5, 6] (fun o i wr => ∃ (k : Nat) (A5 : Option Addr) (c5 : Nat), k ≤ n ∧ o = .slice A5 k c5 ∧ i = .int .i64 (k : Int) ∧ Hid (CO wr (w.heap.size + 1) (.slice A5 k c5) k) ∧ Hid (Below w.heap.size w wr) ∧ Hid (WholeV wr w.heap.size 70 [.int .i64 t, .int .i64 a])) (fun _ i _ => n - (intOf i).toNat)
  case atStart => exact ⟨0, none, 0, by omega, rfl, rfl, Lib.hid (CO.nil _ _), HK, H0⟩
  case round =>
    obtain ⟨k, A5, c5, hkn, rfl, rfl, HO, HB, HX⟩ := hrel
    by_cases hlt : k < n
    · have hlt' : (k : Int) < (n : Int) := by omega
      have hk0 : (0 : Int) ≤ (k : Int) := by omega
      have hrow := HR.out.below HB.out
      obtain ⟨b, off, hA, hb, hc⟩ := hrow.2 (by omega)
      subst hA
      obtain ⟨v, hv⟩ : ∃ v, zs.getD k 0 = v := ⟨_, rfl⟩
      have hck : wr.cell? ⟨b, off + k, none⟩ = some (.int .u16 v) := by rw [hc k hlt, hv]
      have hv2 : 0 ≤ v ∧ v ≤ 65535 := by rw [← hv]; exact words_at HZ.out k (by rw [HR.out.1]; exact hlt)
      have x0 : wr.cell? ⟨w.heap.size, 0, none⟩ = some (.int .i64 t) := HX.out.cell 0
      have x1 : wr.cell? ⟨w.heap.size, 1, none⟩ = some (.int .i64 a) := HX.out.cell 1
      have wx : IntKind.i64.wrap (a + (k : Int)) = a + (k : Int) := IntWalk.i64_in _ (by omega)
      have hgr : Below wr.heap.size wr (wr.alloc (.cells #[.int .i64 t, .int .i64 (a + (k : Int)), .int .u16 v] 72)).drew := ((Below.refl _ _).alloc (Nat.le_refl _) _).drew
      have hsz : w.heap.size + 1 ≤ wr.heap.size := HX.out.lt
      have HOA : Hid (CO (wr.alloc (.cells #[.int .i64 t, .int .i64 (a + (k : Int)), .int .u16 v] 72)).drew (w.heap.size + 1) (.slice A5 k c5) k) := HO.out.keep hgr
      have HBA : Hid (Below w.heap.size w (wr.alloc (.cells #[.int .i64 t, .int .i64 (a + (k : Int)), .int .u16 v] 72)).drew) := HB.out.trans (hgr.mono HB.out.size)
      have HBX : Hid (Below (w.heap.size + 1) wr (wr.alloc (.cells #[.int .i64 t, .int .i64 (a + (k : Int)), .int .u16 v] 72)).drew) := hgr.mono hsz
      have HRA : Hid (CeR (wr.alloc (.cells #[.int .i64 t, .int .i64 (a + (k : Int)), .int .u16 v] 72)).drew (some ⟨wr.heap.size, 0, none⟩) 1 [(t, a + (k : Int), v)]) := cer_one wr t (a + (k : Int)) v _
      have HSA : Hid (w.heap.size + 1 ≤ (wr.alloc (.cells #[.int .i64 t, .int .i64 (a + (k : Int)), .int .u16 v] 72)).drew.heap.size) := Nat.le_trans hsz hgr.size
      have hkx : k ≤ 3000 := by omega
      clear hrow hc hb hgr
      go_wp2
      go_region_law (first
        | (refine step_append_ces (.tmp 13) (.tmp 26) (w.heap.size + 1) (.slice A5 k c5) k 1 (k + 1) [(t, a + (k : Int), v)] (Fit16.one hv2.1 hv2.2) rfl (by omega) ⟨rfl, rfl, (by first | rfl | (simp [eval_put_tmp, size_put]; done) | (simp [eval_put_tmp, size_put]; simp [Act.eval]; done) | (simp [Act.eval]; done))⟩ HOA.out ⟨some ⟨wr.heap.size, 0, none⟩, 1, (by first | rfl | (simp [eval_put_tmp, size_put]; done) | (simp [eval_put_tmp, size_put]; simp [Act.eval]; done) | (simp [Act.eval]; done)), HRA.out⟩ HSA.out ?_
           intro A6 c6 w6 hown6 hg6
           have HO6 := Lib.hid hown6
           have HB6 := Lib.hid (below_co (HBA.out) (HOA.out.mono (Nat.le_succ _)) hg6 HBA.out.size)
           have HX6 := Lib.hid (HX.out.below (below_co HBX.out HOA.out hg6 HSA.out) (Nat.lt_succ_self _))
           clear hown6 hg6))
      all_goals
        go_wp2
        go_roundw
        case rel => exact ⟨k + 1, A6, c6, by omega, rfl, rfl, HO6, HB6, HX6⟩
        case measure => simp [intOf]; omega
    · have hge : ¬ (k : Int) < (n : Int) := by omega
      go_wp2
      go_ret
      exact ⟨A5, k, c5, rfl, hkn, HO.out.mono (Nat.le_succ _), HB.out⟩

theorem span12_any (t f u : Int) (w : World) :
    Calls Try.prog 43 #[.agg #[.int .i64 t, .int .i64 f, .int .i64 u]] w (SomeB w) := by
  have hk : Below w.heap.size w (w.alloc (.cells #[.int .i64 t, .int .i64 f, .int .i64 u] 82)) := (Below.refl _ _).alloc (Nat.le_refl _) _
  have HK := Lib.hid hk
  clear hk
  by_cases h1 : 0 ≤ t
  · by_cases h2 : t ≤ 3
    · by_cases h3 : 0 ≤ f
      · by_cases h4 : u ≤ 65536
        · by_cases h5 : f < u
          all_goals
            go_enter Try.func43, Try.ntmps43
            go_wp2
            go_ret
            exact ⟨_, rfl, HK.out⟩
        · go_enter Try.func43, Try.ntmps43
          go_wp2
          go_ret
          exact ⟨_, rfl, HK.out⟩
      · go_enter Try.func43, Try.ntmps43
        go_wp2
        go_ret
        exact ⟨_, rfl, HK.out⟩
    · go_enter Try.func43, Try.ntmps43
      go_wp2
      go_ret
      exact ⟨_, rfl, HK.out⟩
  · go_enter Try.func43, Try.ntmps43
    go_wp2
    go_ret
    exact ⟨_, rfl, HK.out⟩

theorem NewCells.up {n N : Nat} {w W : World} {e : Ending} {w' : World} (h : NewCells n W e w') (hb : Below w.heap.size w W) (hN : n ≤ N) : NewCells N w e w' := by
  obtain ⟨A, m, c, h1, h2, h3, h4⟩ := h
  exact ⟨A, m, c, h1, by omega, h3.mono hb.size, hb.trans (h4.mono hb.size)⟩
theorem row_one (W : World) (x : Int) (T : TypeId) : Row .u16 (W.alloc (.cells #[.int .u16 x] T)) (W.alloc (.cells #[.int .u16 x] T)).heap.size (some ⟨W.heap.size, 0, none⟩) 1 [x] := (show Whole .u16 (W.alloc (.cells #[.int .u16 x] T)) W.heap.size T [x] from heap_alloc_new W _).row
theorem words_one {x : Int} (h0 : 0 ≤ x) (h1 : x ≤ 65535) : Words [x] := fun y hy => by
  obtain rfl := List.mem_singleton.1 hy
  omega

/-- A row of words of the call's own, whatever they are. -/
def WO (w : World) (base : Nat) (v : Value) (n : Nat) : Prop := ∃ zs : List Int, Words zs ∧ zs.length = n ∧ w.ownsRow base 25 1 v n (zs.map (Value.int .u16))
theorem WO.nil (w : World) (base : Nat) : WO w base (.slice none 0 0) 0 := ⟨[], fun _ h => (List.not_mem_nil h).elim, rfl, own_none _ _ _⟩
theorem WO.keep {w w' : World} {b : Nat} {v : Value} {n : Nat} (h : WO w b v n) (hb : Below w.heap.size w w') : WO w' b v n := by
  obtain ⟨zs, h1, h2, h3⟩ := h
  exact ⟨zs, h1, h2, own_keep h3 hb⟩
theorem WO.mono {w : World} {b b' : Nat} {v : Value} {n : Nat} (h : WO w b v n) (hb : b' ≤ b) : WO w b' v n := by
  obtain ⟨zs, h1, h2, h3⟩ := h
  exact ⟨zs, h1, h2, own_mono h3 hb⟩
theorem below_wo {B : Nat} {w w0 w' : World} {v : Value} {n : Nat} (hb : Below B w0 w) (h : WO w B v n) (hg : w.grownBy w' v.ownBlock) (hB : B ≤ w.heap.size) : Below B w0 w' := by
  obtain ⟨zs, h1, h2, h3⟩ := h
  exact below_append hb h3 hg hB
theorem infoU : (Try.prog.info? 25).map (fun i => (i.zero, i.size, i.bytes)) = some (some (.int .u16 0), 1, 2) := by kernel_rfl
theorem run_append_word (w : World) (base : Nat) (ty : TypeId) (v : Value) (n : Nat) (hown : WO w base v n) (g : Nat) (y : Int) (hr : Row .u16 w w.heap.size (some ⟨g, 0, none⟩) 1 [y]) (h0 : 0 ≤ y) (h1 : y ≤ 65535) (hn : n ≤ 100000) (hbase : base ≤ w.heap.size) :
    ∃ A' c' w', (Builtin.append_ #[22, 22] ty #[v, .slice (some ⟨g, 0, none⟩) 1 1]).run Try.prog w = .ok (.slice A' (n + 1) c') w' ∧ WO w' base (.slice A' (n + 1) c') (n + 1) ∧ w.grownBy w' v.ownBlock := by
  obtain ⟨zs, hz, hl, hown⟩ := hown
  obtain ⟨v', w', hrun, h2, h3, h4⟩ := run_append_row (P := Try.prog) w base 22 ty 25 (.int .u16 0) 2 Try.underlying22 infoU rfl v n _ hown w.heap.size (some ⟨g, 0, none⟩) 1 1 [.int .u16 y] (by have h := hr.v; simpa using h) (by simp [Value.oneCell']) (by omega) (by omega) hbase
  obtain ⟨A', c', rfl⟩ := own_slice h2
  refine ⟨A', c', w', hrun, ⟨zs ++ [y], ?_, by simp [hl], by rw [List.map_append]; exact h2⟩, h3⟩
  intro x hx
  rcases List.mem_append.1 hx with hx | hx
  · exact hz x hx
  · obtain rfl := List.mem_singleton.1 hx
    omega
theorem wpList_append_word {w : World} {ops : Array Oper} {rest : List Oper} {o : Oper} {a : Act} {Q : Exit → Act → World → Prop} (hgd : o.guard = none) (s x : Operand)
    (ho : o.op = .call { callee := .builtin .append, args := #[s, x], argTypes := #[22, 22] })
    (base : Nat) (v : Value) (n : Nat) (hs : a.eval s = v) (hown : WO w base v n) (g : Nat) (y : Int) (hx : a.eval x = .slice (some ⟨g, 0, none⟩) 1 1) (hr : Row .u16 w w.heap.size (some ⟨g, 0, none⟩) 1 [y]) (h0 : 0 ≤ y) (h1 : y ≤ 65535) (hn : n ≤ 100000) (hbase : base ≤ w.heap.size)
    (h : ∀ A' c' w', WO w' base (.slice A' (n + 1) c') (n + 1) → w.grownBy w' v.ownBlock → wpList Try.prog ops Q rest (a.put o.dst (.slice A' (n + 1) c')) w') : wpList Try.prog ops Q (o :: rest) a w := by
  refine wpList_plain hgd fun _ hK => ?_
  obtain ⟨A', c', w', hrun, h2, h3⟩ := run_append_word w base o.type v n hown g y hr h0 h1 hn hbase
  unfold Oper.wp execOp
  simp only [ho, resolve, invoke, builtin, Sem.run_bind, Sem.run_pure, Result.andThen_ok, List.map_toArray, List.map_cons, List.map_nil, hs, hx, hrun]
  exact hK _ _ (h A' c' w' h2 h3)

set_option maxRecDepth 100000 in
set_option maxHeartbeats 2000000 in
theorem rcells_1 (at_ n v an orr : Int) (bl wl : Nat) (ra rn co ob : Int) (BA WA : Option Addr) (bc wc : Nat) (bs : List Bool) (ws : List Int) (was : Int) (w : World) (hrt : rightP 1 at_ n v an orr bl wl ra rn co ob) (hwd : Wide at_ n v an orr ra rn co ob) (hbr : BRow w w.heap.size BA bl bs) (hwr : Row .u16 w w.heap.size WA wl ws) (hws : Words ws) (h0 : 0 ≤ was) (h1 : was ≤ 65535) :
    Calls Try.prog 45 #[.agg #[.int .i64 1, .int .i64 at_, .int .i64 n, .int .u16 v, .int .u16 an, .int .u16 orr, .slice BA bl bc, .slice WA wl wc, .int .i64 ra, .int .i64 rn, .int .i64 co, .int .i64 ob], .int .u16 was] w (NewCells 3000 w) := by
  have hrt0 := hrt
  obtain ⟨_, hpl, ⟨a0, a1⟩, ⟨r0, r1⟩, hfit⟩ := hrt0
  unfold plainP at hpl
  unfold fitsP at hfit
  have hm1 : kMostR 1 ≤ 2000 := by decide
  have hm2 : kMostW 1 ≤ 2000 := by decide
  have v0 := hwd.v0
  have v1 := hwd.v1
  clear hpl hfit hm1 hm2 hwd
  have HBR := Lib.hid hbr
  have HWR := Lib.hid hwr
  have HWS := Lib.hid hws
  have HRt := Lib.hid hrt
  clear hrt hbr hwr hws
  have HT1 : Hid (kTab 1 = 0) := rfl
  have HT2 : Hid (kHas 1 = true) := rfl
  go_enter Try.func45, Try.ntmps45
  go_wp2_with (first
    | (go_at_call 42
       (with_reducible refine (right_yes 1 at_ n v an orr bl wl ra rn co ob BA WA bc wc _ HRt.out).mono ?_)
       rintro e w4 ⟨rfl, hb4⟩
       have HB4 : Hid (Below w.heap.size w w4) := ((Below.refl _ _).alloc (Nat.le_refl _) _).trans (hb4.mono (by simp))
       have hk4 : Below (w.heap.size + 1) (w.alloc (.cells #[.int .i64 1, .int .i64 at_, .int .i64 n, .int .u16 v, .int .u16 an, .int .u16 orr, .slice BA bl bc, .slice WA wl wc, .int .i64 ra, .int .i64 rn, .int .i64 co, .int .i64 ob] 48)) w4 := by
         rwa [show (w.alloc (.cells #[.int .i64 1, .int .i64 at_, .int .i64 n, .int .u16 v, .int .u16 an, .int .u16 orr, .slice BA bl bc, .slice WA wl wc, .int .i64 ra, .int .i64 rn, .int .i64 co, .int .i64 ob] 48)).heap.size = w.heap.size + 1 by simp] at hb4
       obtain ⟨hc0, hc1, hc2, hc3, hc4, hc5, hc6, hc7, hc8, hc9, hc10, hc11⟩ := box12 _ _ _ _ _ _ _ _ _ _ _ _ _ w w4 hk4
       have hs4 : w.heap.size < w4.heap.size := Nat.lt_of_lt_of_le (by simp) hk4.size
       clear hb4 hk4 hc2 hc8 hc9 hc10 hc11)
    | (go_at_call 44; (with_reducible refine (table_lit 1 _ _ _ HT1.out HT2.out).mono ?_); rintro e w' ⟨rfl, rfl⟩)
    | fail)
  all_goals
    go_wp2
    go_ret
    exact ⟨none, 0, 0, rfl, by omega, CO.nil _ _, HB4.out.alloc HB4.out.size _⟩


set_option maxRecDepth 100000 in
set_option maxHeartbeats 2000000 in
theorem rcells_2 (at_ n v an orr : Int) (bl wl : Nat) (ra rn co ob : Int) (BA WA : Option Addr) (bc wc : Nat) (bs : List Bool) (ws : List Int) (was : Int) (w : World) (hrt : rightP 2 at_ n v an orr bl wl ra rn co ob) (hwd : Wide at_ n v an orr ra rn co ob) (hbr : BRow w w.heap.size BA bl bs) (hwr : Row .u16 w w.heap.size WA wl ws) (hws : Words ws) (h0 : 0 ≤ was) (h1 : was ≤ 65535) :
    Calls Try.prog 45 #[.agg #[.int .i64 2, .int .i64 at_, .int .i64 n, .int .u16 v, .int .u16 an, .int .u16 orr, .slice BA bl bc, .slice WA wl wc, .int .i64 ra, .int .i64 rn, .int .i64 co, .int .i64 ob], .int .u16 was] w (NewCells 3000 w) := by
  have hrt0 := hrt
  obtain ⟨_, hpl, ⟨a0, a1⟩, ⟨r0, r1⟩, hfit⟩ := hrt0
  unfold plainP at hpl
  unfold fitsP at hfit
  have hm1 : kMostR 2 ≤ 2000 := by decide
  have hm2 : kMostW 2 ≤ 2000 := by decide
  have v0 := hwd.v0
  have v1 := hwd.v1
  clear hpl hfit hm1 hm2 hwd
  have HBR := Lib.hid hbr
  have HWR := Lib.hid hwr
  have HWS := Lib.hid hws
  have HRt := Lib.hid hrt
  clear hrt hbr hwr hws
  have HT1 : Hid (kTab 2 = 1) := rfl
  have HT2 : Hid (kHas 2 = true) := rfl
  go_enter Try.func45, Try.ntmps45
  go_wp2_with (first
    | (go_at_call 42
       (with_reducible refine (right_yes 2 at_ n v an orr bl wl ra rn co ob BA WA bc wc _ HRt.out).mono ?_)
       rintro e w4 ⟨rfl, hb4⟩
       have HB4 : Hid (Below w.heap.size w w4) := ((Below.refl _ _).alloc (Nat.le_refl _) _).trans (hb4.mono (by simp))
       have hk4 : Below (w.heap.size + 1) (w.alloc (.cells #[.int .i64 2, .int .i64 at_, .int .i64 n, .int .u16 v, .int .u16 an, .int .u16 orr, .slice BA bl bc, .slice WA wl wc, .int .i64 ra, .int .i64 rn, .int .i64 co, .int .i64 ob] 48)) w4 := by
         rwa [show (w.alloc (.cells #[.int .i64 2, .int .i64 at_, .int .i64 n, .int .u16 v, .int .u16 an, .int .u16 orr, .slice BA bl bc, .slice WA wl wc, .int .i64 ra, .int .i64 rn, .int .i64 co, .int .i64 ob] 48)).heap.size = w.heap.size + 1 by simp] at hb4
       obtain ⟨hc0, hc1, hc2, hc3, hc4, hc5, hc6, hc7, hc8, hc9, hc10, hc11⟩ := box12 _ _ _ _ _ _ _ _ _ _ _ _ _ w w4 hk4
       have hs4 : w.heap.size < w4.heap.size := Nat.lt_of_lt_of_le (by simp) hk4.size
       clear hb4 hk4 hc2 hc8 hc9 hc10 hc11)
    | (go_at_call 44; (with_reducible refine (table_lit 2 _ _ _ HT1.out HT2.out).mono ?_); rintro e w' ⟨rfl, rfl⟩)
    | fail)
  all_goals
    go_wp2
    go_ret
    exact ⟨none, 0, 0, rfl, by omega, CO.nil _ _, HB4.out.alloc HB4.out.size _⟩


set_option maxRecDepth 100000 in
set_option maxHeartbeats 2000000 in
theorem rcells_3 (at_ n v an orr : Int) (bl wl : Nat) (ra rn co ob : Int) (BA WA : Option Addr) (bc wc : Nat) (bs : List Bool) (ws : List Int) (was : Int) (w : World) (hrt : rightP 3 at_ n v an orr bl wl ra rn co ob) (hwd : Wide at_ n v an orr ra rn co ob) (hbr : BRow w w.heap.size BA bl bs) (hwr : Row .u16 w w.heap.size WA wl ws) (hws : Words ws) (h0 : 0 ≤ was) (h1 : was ≤ 65535) :
    Calls Try.prog 45 #[.agg #[.int .i64 3, .int .i64 at_, .int .i64 n, .int .u16 v, .int .u16 an, .int .u16 orr, .slice BA bl bc, .slice WA wl wc, .int .i64 ra, .int .i64 rn, .int .i64 co, .int .i64 ob], .int .u16 was] w (NewCells 3000 w) := by
  have hrt0 := hrt
  obtain ⟨_, hpl, ⟨a0, a1⟩, ⟨r0, r1⟩, hfit⟩ := hrt0
  unfold plainP at hpl
  unfold fitsP at hfit
  have hm1 : kMostR 3 ≤ 2000 := by decide
  have hm2 : kMostW 3 ≤ 2000 := by decide
  have v0 := hwd.v0
  have v1 := hwd.v1
  clear hpl hfit hm1 hm2 hwd
  have HBR := Lib.hid hbr
  have HWR := Lib.hid hwr
  have HWS := Lib.hid hws
  have HRt := Lib.hid hrt
  clear hrt hbr hwr hws
  have HT1 : Hid (kTab 3 = 2) := rfl
  have HT2 : Hid (kHas 3 = true) := rfl
  go_enter Try.func45, Try.ntmps45
  go_wp2_with (first
    | (go_at_call 42
       (with_reducible refine (right_yes 3 at_ n v an orr bl wl ra rn co ob BA WA bc wc _ HRt.out).mono ?_)
       rintro e w4 ⟨rfl, hb4⟩
       have HB4 : Hid (Below w.heap.size w w4) := ((Below.refl _ _).alloc (Nat.le_refl _) _).trans (hb4.mono (by simp))
       have hk4 : Below (w.heap.size + 1) (w.alloc (.cells #[.int .i64 3, .int .i64 at_, .int .i64 n, .int .u16 v, .int .u16 an, .int .u16 orr, .slice BA bl bc, .slice WA wl wc, .int .i64 ra, .int .i64 rn, .int .i64 co, .int .i64 ob] 48)) w4 := by
         rwa [show (w.alloc (.cells #[.int .i64 3, .int .i64 at_, .int .i64 n, .int .u16 v, .int .u16 an, .int .u16 orr, .slice BA bl bc, .slice WA wl wc, .int .i64 ra, .int .i64 rn, .int .i64 co, .int .i64 ob] 48)).heap.size = w.heap.size + 1 by simp] at hb4
       obtain ⟨hc0, hc1, hc2, hc3, hc4, hc5, hc6, hc7, hc8, hc9, hc10, hc11⟩ := box12 _ _ _ _ _ _ _ _ _ _ _ _ _ w w4 hk4
       have hs4 : w.heap.size < w4.heap.size := Nat.lt_of_lt_of_le (by simp) hk4.size
       clear hb4 hk4 hc2 hc8 hc9 hc10 hc11)
    | (go_at_call 44; (with_reducible refine (table_lit 3 _ _ _ HT1.out HT2.out).mono ?_); rintro e w' ⟨rfl, rfl⟩)
    | fail)
  all_goals
    go_wp2
    go_ret
    exact ⟨none, 0, 0, rfl, by omega, CO.nil _ _, HB4.out.alloc HB4.out.size _⟩


set_option maxRecDepth 100000 in
set_option maxHeartbeats 2000000 in
theorem rcells_4 (at_ n v an orr : Int) (bl wl : Nat) (ra rn co ob : Int) (BA WA : Option Addr) (bc wc : Nat) (bs : List Bool) (ws : List Int) (was : Int) (w : World) (hrt : rightP 4 at_ n v an orr bl wl ra rn co ob) (hwd : Wide at_ n v an orr ra rn co ob) (hbr : BRow w w.heap.size BA bl bs) (hwr : Row .u16 w w.heap.size WA wl ws) (hws : Words ws) (h0 : 0 ≤ was) (h1 : was ≤ 65535) :
    Calls Try.prog 45 #[.agg #[.int .i64 4, .int .i64 at_, .int .i64 n, .int .u16 v, .int .u16 an, .int .u16 orr, .slice BA bl bc, .slice WA wl wc, .int .i64 ra, .int .i64 rn, .int .i64 co, .int .i64 ob], .int .u16 was] w (NewCells 3000 w) := by
  have hrt0 := hrt
  obtain ⟨_, hpl, ⟨a0, a1⟩, ⟨r0, r1⟩, hfit⟩ := hrt0
  unfold plainP at hpl
  unfold fitsP at hfit
  have hm1 : kMostR 4 ≤ 2000 := by decide
  have hm2 : kMostW 4 ≤ 2000 := by decide
  have v0 := hwd.v0
  have v1 := hwd.v1
  clear hpl hfit hm1 hm2 hwd
  have HBR := Lib.hid hbr
  have HWR := Lib.hid hwr
  have HWS := Lib.hid hws
  have HRt := Lib.hid hrt
  clear hrt hbr hwr hws
  have HT1 : Hid (kTab 4 = 3) := rfl
  have HT2 : Hid (kHas 4 = true) := rfl
  go_enter Try.func45, Try.ntmps45
  go_wp2_with (first
    | (go_at_call 42
       (with_reducible refine (right_yes 4 at_ n v an orr bl wl ra rn co ob BA WA bc wc _ HRt.out).mono ?_)
       rintro e w4 ⟨rfl, hb4⟩
       have HB4 : Hid (Below w.heap.size w w4) := ((Below.refl _ _).alloc (Nat.le_refl _) _).trans (hb4.mono (by simp))
       have hk4 : Below (w.heap.size + 1) (w.alloc (.cells #[.int .i64 4, .int .i64 at_, .int .i64 n, .int .u16 v, .int .u16 an, .int .u16 orr, .slice BA bl bc, .slice WA wl wc, .int .i64 ra, .int .i64 rn, .int .i64 co, .int .i64 ob] 48)) w4 := by
         rwa [show (w.alloc (.cells #[.int .i64 4, .int .i64 at_, .int .i64 n, .int .u16 v, .int .u16 an, .int .u16 orr, .slice BA bl bc, .slice WA wl wc, .int .i64 ra, .int .i64 rn, .int .i64 co, .int .i64 ob] 48)).heap.size = w.heap.size + 1 by simp] at hb4
       obtain ⟨hc0, hc1, hc2, hc3, hc4, hc5, hc6, hc7, hc8, hc9, hc10, hc11⟩ := box12 _ _ _ _ _ _ _ _ _ _ _ _ _ w w4 hk4
       have hs4 : w.heap.size < w4.heap.size := Nat.lt_of_lt_of_le (by simp) hk4.size
       clear hb4 hk4 hc2 hc8 hc9 hc10 hc11)
    | (go_at_call 44; (with_reducible refine (table_lit 4 _ _ _ HT1.out HT2.out).mono ?_); rintro e w' ⟨rfl, rfl⟩)
    | fail)
  all_goals
    go_wp2
    go_ret
    exact ⟨none, 0, 0, rfl, by omega, CO.nil _ _, HB4.out.alloc HB4.out.size _⟩


set_option maxRecDepth 100000 in
set_option maxHeartbeats 2000000 in
theorem rcells_5 (at_ n v an orr : Int) (bl wl : Nat) (ra rn co ob : Int) (BA WA : Option Addr) (bc wc : Nat) (bs : List Bool) (ws : List Int) (was : Int) (w : World) (hrt : rightP 5 at_ n v an orr bl wl ra rn co ob) (hwd : Wide at_ n v an orr ra rn co ob) (hbr : BRow w w.heap.size BA bl bs) (hwr : Row .u16 w w.heap.size WA wl ws) (hws : Words ws) (h0 : 0 ≤ was) (h1 : was ≤ 65535) :
    Calls Try.prog 45 #[.agg #[.int .i64 5, .int .i64 at_, .int .i64 n, .int .u16 v, .int .u16 an, .int .u16 orr, .slice BA bl bc, .slice WA wl wc, .int .i64 ra, .int .i64 rn, .int .i64 co, .int .i64 ob], .int .u16 was] w (NewCells 3000 w) := by
  have hrt0 := hrt
  obtain ⟨_, hpl, ⟨a0, a1⟩, ⟨r0, r1⟩, hfit⟩ := hrt0
  unfold plainP at hpl
  unfold fitsP at hfit
  have hm1 : kMostR 5 ≤ 2000 := by decide
  have hm2 : kMostW 5 ≤ 2000 := by decide
  have v0 := hwd.v0
  have v1 := hwd.v1
  clear hpl hfit hm1 hm2 hwd
  have HBR := Lib.hid hbr
  have HWR := Lib.hid hwr
  have HWS := Lib.hid hws
  have HRt := Lib.hid hrt
  clear hrt hbr hwr hws
  have HT1 : Hid (kTab 5 = 0) := rfl
  have HT2 : Hid (kHas 5 = true) := rfl
  go_enter Try.func45, Try.ntmps45
  go_wp2_with (first
    | (go_at_call 42
       (with_reducible refine (right_yes 5 at_ n v an orr bl wl ra rn co ob BA WA bc wc _ HRt.out).mono ?_)
       rintro e w4 ⟨rfl, hb4⟩
       have HB4 : Hid (Below w.heap.size w w4) := ((Below.refl _ _).alloc (Nat.le_refl _) _).trans (hb4.mono (by simp))
       have hk4 : Below (w.heap.size + 1) (w.alloc (.cells #[.int .i64 5, .int .i64 at_, .int .i64 n, .int .u16 v, .int .u16 an, .int .u16 orr, .slice BA bl bc, .slice WA wl wc, .int .i64 ra, .int .i64 rn, .int .i64 co, .int .i64 ob] 48)) w4 := by
         rwa [show (w.alloc (.cells #[.int .i64 5, .int .i64 at_, .int .i64 n, .int .u16 v, .int .u16 an, .int .u16 orr, .slice BA bl bc, .slice WA wl wc, .int .i64 ra, .int .i64 rn, .int .i64 co, .int .i64 ob] 48)).heap.size = w.heap.size + 1 by simp] at hb4
       obtain ⟨hc0, hc1, hc2, hc3, hc4, hc5, hc6, hc7, hc8, hc9, hc10, hc11⟩ := box12 _ _ _ _ _ _ _ _ _ _ _ _ _ w w4 hk4
       have hs4 : w.heap.size < w4.heap.size := Nat.lt_of_lt_of_le (by simp) hk4.size
       clear hb4 hk4 hc2 hc8 hc9 hc10 hc11)
    | (go_at_call 44; (with_reducible refine (table_lit 5 _ _ _ HT1.out HT2.out).mono ?_); rintro e w' ⟨rfl, rfl⟩)
    | (go_at_call 74
       have hu : Below w.heap.size w ((w4.alloc (.cells #[.int .i64 0, .int .i64 at_] 70)).alloc (.cells #[.int .u16 v] 25)) := (HB4.out.alloc HB4.out.size _).alloc (Nat.le_trans HB4.out.size (by simp)) _
       have hrow := row_one (w4.alloc (.cells #[.int .i64 0, .int .i64 at_] 70)) v 25
       rw [show (w4.alloc (.cells #[.int .i64 0, .int .i64 at_] 70)).heap.size = w4.heap.size + 1 by simp] at hrow
       (with_reducible refine (lay_any 0 at_ (some ⟨w4.heap.size + 1, 0, none⟩) 1 1 [v] ((w4.alloc (.cells #[.int .i64 0, .int .i64 at_] 70)).alloc (.cells #[.int .u16 v] 25)) ⟨a0, by omega⟩ hrow (words_one v0 v1) (by omega)).mono ?_)
       intro e w7 h7
       obtain ⟨A7, m7, c7, rfl, q7⟩ := h7.up hu (show 1 ≤ 3000 by omega)
       have HQ := Lib.hid q7
       clear hu h7 q7 hrow))
  all_goals
    go_wp2
    go_ret
    exact ⟨A7, m7, c7, rfl, HQ.out⟩


set_option maxRecDepth 100000 in
set_option maxHeartbeats 2000000 in
theorem rcells_6 (at_ n v an orr : Int) (bl wl : Nat) (ra rn co ob : Int) (BA WA : Option Addr) (bc wc : Nat) (bs : List Bool) (ws : List Int) (was : Int) (w : World) (hrt : rightP 6 at_ n v an orr bl wl ra rn co ob) (hwd : Wide at_ n v an orr ra rn co ob) (hbr : BRow w w.heap.size BA bl bs) (hwr : Row .u16 w w.heap.size WA wl ws) (hws : Words ws) (h0 : 0 ≤ was) (h1 : was ≤ 65535) :
    Calls Try.prog 45 #[.agg #[.int .i64 6, .int .i64 at_, .int .i64 n, .int .u16 v, .int .u16 an, .int .u16 orr, .slice BA bl bc, .slice WA wl wc, .int .i64 ra, .int .i64 rn, .int .i64 co, .int .i64 ob], .int .u16 was] w (NewCells 3000 w) := by
  have hrt0 := hrt
  obtain ⟨_, hpl, ⟨a0, a1⟩, ⟨r0, r1⟩, hfit⟩ := hrt0
  unfold plainP at hpl
  unfold fitsP at hfit
  have hm1 : kMostR 6 ≤ 2000 := by decide
  have hm2 : kMostW 6 ≤ 2000 := by decide
  have v0 := hwd.v0
  have v1 := hwd.v1
  clear hpl hfit hm1 hm2 hwd
  have HBR := Lib.hid hbr
  have HWR := Lib.hid hwr
  have HWS := Lib.hid hws
  have HRt := Lib.hid hrt
  clear hrt hbr hwr hws
  have HT1 : Hid (kTab 6 = 2) := rfl
  have HT2 : Hid (kHas 6 = true) := rfl
  go_enter Try.func45, Try.ntmps45
  go_wp2_with (first
    | (go_at_call 42
       (with_reducible refine (right_yes 6 at_ n v an orr bl wl ra rn co ob BA WA bc wc _ HRt.out).mono ?_)
       rintro e w4 ⟨rfl, hb4⟩
       have HB4 : Hid (Below w.heap.size w w4) := ((Below.refl _ _).alloc (Nat.le_refl _) _).trans (hb4.mono (by simp))
       have hk4 : Below (w.heap.size + 1) (w.alloc (.cells #[.int .i64 6, .int .i64 at_, .int .i64 n, .int .u16 v, .int .u16 an, .int .u16 orr, .slice BA bl bc, .slice WA wl wc, .int .i64 ra, .int .i64 rn, .int .i64 co, .int .i64 ob] 48)) w4 := by
         rwa [show (w.alloc (.cells #[.int .i64 6, .int .i64 at_, .int .i64 n, .int .u16 v, .int .u16 an, .int .u16 orr, .slice BA bl bc, .slice WA wl wc, .int .i64 ra, .int .i64 rn, .int .i64 co, .int .i64 ob] 48)).heap.size = w.heap.size + 1 by simp] at hb4
       obtain ⟨hc0, hc1, hc2, hc3, hc4, hc5, hc6, hc7, hc8, hc9, hc10, hc11⟩ := box12 _ _ _ _ _ _ _ _ _ _ _ _ _ w w4 hk4
       have hs4 : w.heap.size < w4.heap.size := Nat.lt_of_lt_of_le (by simp) hk4.size
       clear hb4 hk4 hc2 hc8 hc9 hc10 hc11)
    | (go_at_call 44; (with_reducible refine (table_lit 6 _ _ _ HT1.out HT2.out).mono ?_); rintro e w' ⟨rfl, rfl⟩)
    | (go_at_call 74
       have hu : Below w.heap.size w ((w4.alloc (.cells #[.int .i64 2, .int .i64 at_] 70)).alloc (.cells #[.int .u16 v] 25)) := (HB4.out.alloc HB4.out.size _).alloc (Nat.le_trans HB4.out.size (by simp)) _
       have hrow := row_one (w4.alloc (.cells #[.int .i64 2, .int .i64 at_] 70)) v 25
       rw [show (w4.alloc (.cells #[.int .i64 2, .int .i64 at_] 70)).heap.size = w4.heap.size + 1 by simp] at hrow
       (with_reducible refine (lay_any 2 at_ (some ⟨w4.heap.size + 1, 0, none⟩) 1 1 [v] ((w4.alloc (.cells #[.int .i64 2, .int .i64 at_] 70)).alloc (.cells #[.int .u16 v] 25)) ⟨a0, by omega⟩ hrow (words_one v0 v1) (by omega)).mono ?_)
       intro e w7 h7
       obtain ⟨A7, m7, c7, rfl, q7⟩ := h7.up hu (show 1 ≤ 3000 by omega)
       have HQ := Lib.hid q7
       clear hu h7 q7 hrow))
  all_goals
    go_wp2
    go_ret
    exact ⟨A7, m7, c7, rfl, HQ.out⟩


set_option maxRecDepth 100000 in
set_option maxHeartbeats 2000000 in
theorem rcells_15 (at_ n v an orr : Int) (bl wl : Nat) (ra rn co ob : Int) (BA WA : Option Addr) (bc wc : Nat) (bs : List Bool) (ws : List Int) (was : Int) (w : World) (hrt : rightP 15 at_ n v an orr bl wl ra rn co ob) (hwd : Wide at_ n v an orr ra rn co ob) (hbr : BRow w w.heap.size BA bl bs) (hwr : Row .u16 w w.heap.size WA wl ws) (hws : Words ws) (h0 : 0 ≤ was) (h1 : was ≤ 65535) :
    Calls Try.prog 45 #[.agg #[.int .i64 15, .int .i64 at_, .int .i64 n, .int .u16 v, .int .u16 an, .int .u16 orr, .slice BA bl bc, .slice WA wl wc, .int .i64 ra, .int .i64 rn, .int .i64 co, .int .i64 ob], .int .u16 was] w (NewCells 3000 w) := by
  have hrt0 := hrt
  obtain ⟨_, hpl, ⟨a0, a1⟩, ⟨r0, r1⟩, hfit⟩ := hrt0
  unfold plainP at hpl
  unfold fitsP at hfit
  have hm1 : kMostR 15 ≤ 2000 := by decide
  have hm2 : kMostW 15 ≤ 2000 := by decide
  have v0 := hwd.v0
  have v1 := hwd.v1
  have hbl : bl ≤ 3000 := by omega
  clear hpl hfit hm1 hm2 hwd
  have HBR := Lib.hid hbr
  have HWR := Lib.hid hwr
  have HWS := Lib.hid hws
  have HRt := Lib.hid hrt
  clear hrt hbr hwr hws
  have HT1 : Hid (kTab 15 = 0) := rfl
  have HT2 : Hid (kHas 15 = true) := rfl
  go_enter Try.func45, Try.ntmps45
  go_wp2_with (first
    | (go_at_call 42
       (with_reducible refine (right_yes 15 at_ n v an orr bl wl ra rn co ob BA WA bc wc _ HRt.out).mono ?_)
       rintro e w4 ⟨rfl, hb4⟩
       have HB4 : Hid (Below w.heap.size w w4) := ((Below.refl _ _).alloc (Nat.le_refl _) _).trans (hb4.mono (by simp))
       have hk4 : Below (w.heap.size + 1) (w.alloc (.cells #[.int .i64 15, .int .i64 at_, .int .i64 n, .int .u16 v, .int .u16 an, .int .u16 orr, .slice BA bl bc, .slice WA wl wc, .int .i64 ra, .int .i64 rn, .int .i64 co, .int .i64 ob] 48)) w4 := by
         rwa [show (w.alloc (.cells #[.int .i64 15, .int .i64 at_, .int .i64 n, .int .u16 v, .int .u16 an, .int .u16 orr, .slice BA bl bc, .slice WA wl wc, .int .i64 ra, .int .i64 rn, .int .i64 co, .int .i64 ob] 48)).heap.size = w.heap.size + 1 by simp] at hb4
       obtain ⟨hc0, hc1, hc2, hc3, hc4, hc5, hc6, hc7, hc8, hc9, hc10, hc11⟩ := box12 _ _ _ _ _ _ _ _ _ _ _ _ _ w w4 hk4
       have hs4 : w.heap.size < w4.heap.size := Nat.lt_of_lt_of_le (by simp) hk4.size
       clear hb4 hk4 hc2 hc8 hc9 hc10 hc11)
    | (go_at_call 44; (with_reducible refine (table_lit 15 _ _ _ HT1.out HT2.out).mono ?_); rintro e w' ⟨rfl, rfl⟩)
    | fail)
  obtain ⟨W5, hW5⟩ : ∃ W5, w4.alloc (.cells #[.int .i64 0, .int .i64 at_] 70) = W5 := ⟨_, rfl⟩
  have hk5 : WholeV W5 w4.heap.size 70 [.int .i64 0, .int .i64 at_] := by rw [← hW5]; exact heap_alloc_new w4 _
  have hb5 : Below w4.heap.size w4 W5 := by rw [← hW5]; exact (Below.refl _ _).alloc (Nat.le_refl _) _
  have hB5 : Below w.heap.size w W5 := HB4.out.trans (hb5.mono HB4.out.size)
  have HX5 := Lib.hid hk5
  have HB5 := Lib.hid hB5
  have hq6 : W5.cell? ⟨w.heap.size, 6, none⟩ = some (.slice BA bl bc) := (hb5.cell hs4).trans hc6
  rw [hW5]
  clear hW5 hk5 hb5 hB5
  go_loopw [8, 9] (fun l i wr => ∃ (k : Nat) (A5 : Option Addr) (c5 : Nat), k ≤ bl ∧ l = .slice A5 k c5 ∧ i = .int .i64 (k : Int) ∧ Hid (WO wr (w4.heap.size + 1) (.slice A5 k c5) k) ∧ Hid (Below (w4.heap.size + 1) W5 wr) ∧ wr.cell? ⟨w.heap.size, 6, none⟩ = some (.slice BA bl bc)) (fun _ i _ => bl - (intOf i).toNat)
  case atStart => exact ⟨0, none, 0, by omega, rfl, rfl, Lib.hid (WO.nil _ _), Lib.hid (Below.refl _ _), hq6⟩
  case round =>
    obtain ⟨k, A5, c5, hkn, rfl, rfl, HO, HB, hr6⟩ := hrel
    have hsz : w4.heap.size + 1 ≤ wr.heap.size := Nat.le_trans HX5.out.lt HB.out.size
    have HBW : Hid (Below w.heap.size w wr) := HB5.out.trans (HB.out.mono (Nat.le_trans HB4.out.size (Nat.le_succ _)))
    by_cases hlt : k < bl
    · have hlt' : (k : Int) < (bl : Int) := by omega
      have hk0 : (0 : Int) ≤ (k : Int) := by omega
      obtain ⟨b, off, hA, hb, hc⟩ := (HBR.out.below HBW.out).2 (by omega)
      subst hA
      have hck := hc k hlt
      obtain ⟨bb, hbb⟩ : ∃ bb, bs.getD k false = bb := ⟨_, rfl⟩
      rw [hbb] at hck
      clear hc hb hbb
      have hk3 : k ≤ 3000 := by omega
      cases bb
      all_goals
        go_wp2_with (first
          | (at_builtin; (with_reducible show wpList Try.prog _ _ ((⟨some 51, _, _, _, _, _⟩ : Oper) :: _) _ _); refine wpList_append_word (o := ⟨some 51, _, _, _, _, _⟩) rfl _ _ rfl (w4.heap.size + 1) (.slice A5 k c5) k rfl (HO.out.keep ((Below.refl _ _).alloc (Nat.le_refl _) _)) wr.heap.size _ rfl (row_one wr _ 25) (by omega) (by omega) (by omega) (Nat.le_trans hsz (by simp)) ?_
             intro A6 c6 w6 hown6 hg6
             have HO6 := Lib.hid hown6
             have hb6 := below_wo (HB.out.alloc (Nat.le_trans HX5.out.lt HB.out.size) _) (HO.out.keep ((Below.refl _ wr).alloc (Nat.le_refl _) _)) hg6 (Nat.le_trans hsz (by simp))
             have HB6 := Lib.hid hb6
             have hr6' := (hb6.cell (p := ⟨w.heap.size, 6, none⟩) (Nat.lt_succ_of_lt hs4)).trans hq6
             clear hown6 hg6 hb6))
        go_roundw
        case rel => exact ⟨k + 1, A6, c6, by omega, rfl, rfl, HO6, HB6, hr6'⟩
        case measure => simp [intOf]; omega
    · have hge : ¬ (k : Int) < (bl : Int) := by omega
      obtain ⟨zs, hzw, hzl, hzo⟩ := HO.out
      have HZW := Lib.hid hzw
      have HZO := Lib.hid (own_row hzo)
      have hx0 : wr.cell? ⟨w4.heap.size, 0, none⟩ = some (.int .i64 0) := (HX5.out.below HB.out (Nat.lt_succ_self _)).cell 0
      have hx1 : wr.cell? ⟨w4.heap.size, 1, none⟩ = some (.int .i64 at_) := (HX5.out.below HB.out (Nat.lt_succ_self _)).cell 1
      go_wp2_with (first
        | (go_at_call 74
           (with_reducible refine (lay_any 0 at_ A5 k c5 zs wr ⟨a0, by omega⟩ HZO.out.ints HZW.out (by omega)).mono ?_)
           intro e w7 h7
           obtain ⟨A7, m7, c7, rfl, q7⟩ := h7.up HBW.out (show k ≤ 3000 by omega)
           have HQ := Lib.hid q7
           clear h7 q7))
      go_ret
      exact ⟨A7, m7, c7, rfl, HQ.out⟩


set_option maxRecDepth 100000 in
set_option maxHeartbeats 2000000 in
theorem rcells_16 (at_ n v an orr : Int) (bl wl : Nat) (ra rn co ob : Int) (BA WA : Option Addr) (bc wc : Nat) (bs : List Bool) (ws : List Int) (was : Int) (w : World) (hrt : rightP 16 at_ n v an orr bl wl ra rn co ob) (hwd : Wide at_ n v an orr ra rn co ob) (hbr : BRow w w.heap.size BA bl bs) (hwr : Row .u16 w w.heap.size WA wl ws) (hws : Words ws) (h0 : 0 ≤ was) (h1 : was ≤ 65535) :
    Calls Try.prog 45 #[.agg #[.int .i64 16, .int .i64 at_, .int .i64 n, .int .u16 v, .int .u16 an, .int .u16 orr, .slice BA bl bc, .slice WA wl wc, .int .i64 ra, .int .i64 rn, .int .i64 co, .int .i64 ob], .int .u16 was] w (NewCells 3000 w) := by
  have hrt0 := hrt
  obtain ⟨_, hpl, ⟨a0, a1⟩, ⟨r0, r1⟩, hfit⟩ := hrt0
  unfold plainP at hpl
  unfold fitsP at hfit
  have hm1 : kMostR 16 ≤ 2000 := by decide
  have hm2 : kMostW 16 ≤ 2000 := by decide
  have v0 := hwd.v0
  have v1 := hwd.v1
  have hwl : wl ≤ 3000 := by omega
  clear hpl hfit hm1 hm2 hwd
  have HBR := Lib.hid hbr
  have HWR := Lib.hid hwr
  have HWS := Lib.hid hws
  have HRt := Lib.hid hrt
  clear hrt hbr hwr hws
  have HT1 : Hid (kTab 16 = 2) := rfl
  have HT2 : Hid (kHas 16 = true) := rfl
  go_enter Try.func45, Try.ntmps45
  go_wp2_with (first
    | (go_at_call 42
       (with_reducible refine (right_yes 16 at_ n v an orr bl wl ra rn co ob BA WA bc wc _ HRt.out).mono ?_)
       rintro e w4 ⟨rfl, hb4⟩
       have HB4 : Hid (Below w.heap.size w w4) := ((Below.refl _ _).alloc (Nat.le_refl _) _).trans (hb4.mono (by simp))
       have hk4 : Below (w.heap.size + 1) (w.alloc (.cells #[.int .i64 16, .int .i64 at_, .int .i64 n, .int .u16 v, .int .u16 an, .int .u16 orr, .slice BA bl bc, .slice WA wl wc, .int .i64 ra, .int .i64 rn, .int .i64 co, .int .i64 ob] 48)) w4 := by
         rwa [show (w.alloc (.cells #[.int .i64 16, .int .i64 at_, .int .i64 n, .int .u16 v, .int .u16 an, .int .u16 orr, .slice BA bl bc, .slice WA wl wc, .int .i64 ra, .int .i64 rn, .int .i64 co, .int .i64 ob] 48)).heap.size = w.heap.size + 1 by simp] at hb4
       obtain ⟨hc0, hc1, hc2, hc3, hc4, hc5, hc6, hc7, hc8, hc9, hc10, hc11⟩ := box12 _ _ _ _ _ _ _ _ _ _ _ _ _ w w4 hk4
       have hs4 : w.heap.size < w4.heap.size := Nat.lt_of_lt_of_le (by simp) hk4.size
       clear hb4 hk4 hc2 hc8 hc9 hc10 hc11)
    | (go_at_call 44; (with_reducible refine (table_lit 16 _ _ _ HT1.out HT2.out).mono ?_); rintro e w' ⟨rfl, rfl⟩)
    | (go_at_call 74
       have hu : Below w.heap.size w (w4.alloc (.cells #[.int .i64 2, .int .i64 at_] 70)) := HB4.out.alloc HB4.out.size _
       (with_reducible refine (lay_any 2 at_ WA wl wc ws (w4.alloc (.cells #[.int .i64 2, .int .i64 at_] 70)) ⟨a0, by omega⟩ ((HWR.out.below hu).more hu.size) HWS.out (by omega)).mono ?_)
       intro e w7 h7
       obtain ⟨A7, m7, c7, rfl, q7⟩ := h7.up hu (show wl ≤ 3000 by omega)
       have HQ := Lib.hid q7
       clear hu h7 q7))
  all_goals
    go_wp2
    go_ret
    exact ⟨A7, m7, c7, rfl, HQ.out⟩


set_option maxRecDepth 100000 in
set_option maxHeartbeats 2000000 in
theorem rcells_22 (at_ n v an orr : Int) (bl wl : Nat) (ra rn co ob : Int) (BA WA : Option Addr) (bc wc : Nat) (bs : List Bool) (ws : List Int) (was : Int) (w : World) (hrt : rightP 22 at_ n v an orr bl wl ra rn co ob) (hwd : Wide at_ n v an orr ra rn co ob) (hbr : BRow w w.heap.size BA bl bs) (hwr : Row .u16 w w.heap.size WA wl ws) (hws : Words ws) (h0 : 0 ≤ was) (h1 : was ≤ 65535) :
    Calls Try.prog 45 #[.agg #[.int .i64 22, .int .i64 at_, .int .i64 n, .int .u16 v, .int .u16 an, .int .u16 orr, .slice BA bl bc, .slice WA wl wc, .int .i64 ra, .int .i64 rn, .int .i64 co, .int .i64 ob], .int .u16 was] w (NewCells 3000 w) := by
  have hrt0 := hrt
  obtain ⟨_, hpl, ⟨a0, a1⟩, ⟨r0, r1⟩, hfit⟩ := hrt0
  unfold plainP at hpl
  unfold fitsP at hfit
  have hm1 : kMostR 22 ≤ 2000 := by decide
  have hm2 : kMostW 22 ≤ 2000 := by decide
  have v0 := hwd.v0
  have v1 := hwd.v1
  have x0 := hwd.x0
  have x1 := hwd.x1
  have o0 := hwd.o0
  have o1 := hwd.o1
  clear hpl hfit hm1 hm2 hwd
  have HBR := Lib.hid hbr
  have HWR := Lib.hid hwr
  have HWS := Lib.hid hws
  have HRt := Lib.hid hrt
  clear hrt hbr hwr hws
  have HT1 : Hid (kTab 22 = 2) := rfl
  have HT2 : Hid (kHas 22 = true) := rfl
  go_enter Try.func45, Try.ntmps45
  go_wp2_with (first
    | (go_at_call 42
       (with_reducible refine (right_yes 22 at_ n v an orr bl wl ra rn co ob BA WA bc wc _ HRt.out).mono ?_)
       rintro e w4 ⟨rfl, hb4⟩
       have HB4 : Hid (Below w.heap.size w w4) := ((Below.refl _ _).alloc (Nat.le_refl _) _).trans (hb4.mono (by simp))
       have hk4 : Below (w.heap.size + 1) (w.alloc (.cells #[.int .i64 22, .int .i64 at_, .int .i64 n, .int .u16 v, .int .u16 an, .int .u16 orr, .slice BA bl bc, .slice WA wl wc, .int .i64 ra, .int .i64 rn, .int .i64 co, .int .i64 ob] 48)) w4 := by
         rwa [show (w.alloc (.cells #[.int .i64 22, .int .i64 at_, .int .i64 n, .int .u16 v, .int .u16 an, .int .u16 orr, .slice BA bl bc, .slice WA wl wc, .int .i64 ra, .int .i64 rn, .int .i64 co, .int .i64 ob] 48)).heap.size = w.heap.size + 1 by simp] at hb4
       obtain ⟨hc0, hc1, hc2, hc3, hc4, hc5, hc6, hc7, hc8, hc9, hc10, hc11⟩ := box12 _ _ _ _ _ _ _ _ _ _ _ _ _ w w4 hk4
       have hs4 : w.heap.size < w4.heap.size := Nat.lt_of_lt_of_le (by simp) hk4.size
       clear hb4 hk4 hc2 hc8 hc9 hc10 hc11)
    | (go_at_call 44; (with_reducible refine (table_lit 22 _ _ _ HT1.out HT2.out).mono ?_); rintro e w' ⟨rfl, rfl⟩)
    | (go_at_call 74
       have hu : Below w.heap.size w ((w4.alloc (.cells #[.int .i64 2, .int .i64 at_] 70)).alloc (.cells #[.int .u16 (bits .or .u16 (bits .and .u16 was an) (bits .and .u16 orr (65535 - an)))] 25)) := (HB4.out.alloc HB4.out.size _).alloc (Nat.le_trans HB4.out.size (by simp)) _
       have hrow := row_one (w4.alloc (.cells #[.int .i64 2, .int .i64 at_] 70)) (bits .or .u16 (bits .and .u16 was an) (bits .and .u16 orr (65535 - an))) 25
       rw [show (w4.alloc (.cells #[.int .i64 2, .int .i64 at_] 70)).heap.size = w4.heap.size + 1 by simp] at hrow
       (with_reducible refine (lay_any 2 at_ (some ⟨w4.heap.size + 1, 0, none⟩) 1 1 [(bits .or .u16 (bits .and .u16 was an) (bits .and .u16 orr (65535 - an)))] ((w4.alloc (.cells #[.int .i64 2, .int .i64 at_] 70)).alloc (.cells #[.int .u16 (bits .or .u16 (bits .and .u16 was an) (bits .and .u16 orr (65535 - an)))] 25)) ⟨a0, by omega⟩ hrow (words_one (bits_lo_u16 _ _ _) (bits_hi_u16 _ _ _)) (by omega)).mono ?_)
       intro e w7 h7
       obtain ⟨A7, m7, c7, rfl, q7⟩ := h7.up hu (show 1 ≤ 3000 by omega)
       have HQ := Lib.hid q7
       clear hu h7 q7 hrow))
  all_goals
    go_wp2
    go_ret
    exact ⟨A7, m7, c7, rfl, HQ.out⟩


set_option maxRecDepth 100000 in
set_option maxHeartbeats 2000000 in
theorem rcells_23 (at_ n v an orr : Int) (bl wl : Nat) (ra rn co ob : Int) (BA WA : Option Addr) (bc wc : Nat) (bs : List Bool) (ws : List Int) (was : Int) (w : World) (hrt : rightP 23 at_ n v an orr bl wl ra rn co ob) (hwd : Wide at_ n v an orr ra rn co ob) (hbr : BRow w w.heap.size BA bl bs) (hwr : Row .u16 w w.heap.size WA wl ws) (hws : Words ws) (h0 : 0 ≤ was) (h1 : was ≤ 65535) :
    Calls Try.prog 45 #[.agg #[.int .i64 23, .int .i64 at_, .int .i64 n, .int .u16 v, .int .u16 an, .int .u16 orr, .slice BA bl bc, .slice WA wl wc, .int .i64 ra, .int .i64 rn, .int .i64 co, .int .i64 ob], .int .u16 was] w (NewCells 3000 w) := by
  have hrt0 := hrt
  obtain ⟨_, hpl, ⟨a0, a1⟩, ⟨r0, r1⟩, hfit⟩ := hrt0
  unfold plainP at hpl
  unfold fitsP at hfit
  have hm1 : kMostR 23 ≤ 2000 := by decide
  have hm2 : kMostW 23 ≤ 2000 := by decide
  have v0 := hwd.v0
  have v1 := hwd.v1
  have hwl : wl ≤ 3000 := by omega
  clear hpl hfit hm1 hm2 hwd
  have HBR := Lib.hid hbr
  have HWR := Lib.hid hwr
  have HWS := Lib.hid hws
  have HRt := Lib.hid hrt
  clear hrt hbr hwr hws
  have HT1 : Hid (kTab 23 = 2) := rfl
  have HT2 : Hid (kHas 23 = true) := rfl
  go_enter Try.func45, Try.ntmps45
  go_wp2_with (first
    | (go_at_call 42
       (with_reducible refine (right_yes 23 at_ n v an orr bl wl ra rn co ob BA WA bc wc _ HRt.out).mono ?_)
       rintro e w4 ⟨rfl, hb4⟩
       have HB4 : Hid (Below w.heap.size w w4) := ((Below.refl _ _).alloc (Nat.le_refl _) _).trans (hb4.mono (by simp))
       have hk4 : Below (w.heap.size + 1) (w.alloc (.cells #[.int .i64 23, .int .i64 at_, .int .i64 n, .int .u16 v, .int .u16 an, .int .u16 orr, .slice BA bl bc, .slice WA wl wc, .int .i64 ra, .int .i64 rn, .int .i64 co, .int .i64 ob] 48)) w4 := by
         rwa [show (w.alloc (.cells #[.int .i64 23, .int .i64 at_, .int .i64 n, .int .u16 v, .int .u16 an, .int .u16 orr, .slice BA bl bc, .slice WA wl wc, .int .i64 ra, .int .i64 rn, .int .i64 co, .int .i64 ob] 48)).heap.size = w.heap.size + 1 by simp] at hb4
       obtain ⟨hc0, hc1, hc2, hc3, hc4, hc5, hc6, hc7, hc8, hc9, hc10, hc11⟩ := box12 _ _ _ _ _ _ _ _ _ _ _ _ _ w w4 hk4
       have hs4 : w.heap.size < w4.heap.size := Nat.lt_of_lt_of_le (by simp) hk4.size
       clear hb4 hk4 hc2 hc8 hc9 hc10 hc11)
    | (go_at_call 44; (with_reducible refine (table_lit 23 _ _ _ HT1.out HT2.out).mono ?_); rintro e w' ⟨rfl, rfl⟩)
    | (go_at_call 74
       have hu : Below w.heap.size w (w4.alloc (.cells #[.int .i64 2, .int .i64 at_] 70)) := HB4.out.alloc HB4.out.size _
       (with_reducible refine (lay_any 2 at_ WA wl wc ws (w4.alloc (.cells #[.int .i64 2, .int .i64 at_] 70)) ⟨a0, by omega⟩ ((HWR.out.below hu).more hu.size) HWS.out (by omega)).mono ?_)
       intro e w7 h7
       obtain ⟨A7, m7, c7, rfl, q7⟩ := h7.up hu (show wl ≤ 3000 by omega)
       have HQ := Lib.hid q7
       clear hu h7 q7))
  all_goals
    go_wp2
    go_ret
    exact ⟨A7, m7, c7, rfl, HQ.out⟩


set_option maxRecDepth 100000 in
set_option maxHeartbeats 2000000 in
theorem rcells_43 (at_ n v an orr : Int) (bl wl : Nat) (ra rn co ob : Int) (BA WA : Option Addr) (bc wc : Nat) (bs : List Bool) (ws : List Int) (was : Int) (w : World) (hrt : rightP 43 at_ n v an orr bl wl ra rn co ob) (hwd : Wide at_ n v an orr ra rn co ob) (hbr : BRow w w.heap.size BA bl bs) (hwr : Row .u16 w w.heap.size WA wl ws) (hws : Words ws) (h0 : 0 ≤ was) (h1 : was ≤ 65535) :
    Calls Try.prog 45 #[.agg #[.int .i64 43, .int .i64 at_, .int .i64 n, .int .u16 v, .int .u16 an, .int .u16 orr, .slice BA bl bc, .slice WA wl wc, .int .i64 ra, .int .i64 rn, .int .i64 co, .int .i64 ob], .int .u16 was] w (NewCells 3000 w) := by
  have hrt0 := hrt
  obtain ⟨_, hpl, ⟨a0, a1⟩, ⟨r0, r1⟩, hfit⟩ := hrt0
  unfold plainP at hpl
  unfold fitsP at hfit
  have hm1 : kMostR 43 ≤ 2000 := by decide
  have hm2 : kMostW 43 ≤ 2000 := by decide
  have v0 := hwd.v0
  have v1 := hwd.v1
  clear hpl hfit hm1 hm2 hwd
  have HBR := Lib.hid hbr
  have HWR := Lib.hid hwr
  have HWS := Lib.hid hws
  have HRt := Lib.hid hrt
  clear hrt hbr hwr hws
  have HT1 : Hid (kTab 43 = 0) := rfl
  have HT2 : Hid (kHas 43 = false) := rfl
  go_enter Try.func45, Try.ntmps45
  go_wp2_with (first
    | (go_at_call 42
       (with_reducible refine (right_yes 43 at_ n v an orr bl wl ra rn co ob BA WA bc wc _ HRt.out).mono ?_)
       rintro e w4 ⟨rfl, hb4⟩
       have HB4 : Hid (Below w.heap.size w w4) := ((Below.refl _ _).alloc (Nat.le_refl _) _).trans (hb4.mono (by simp))
       have hk4 : Below (w.heap.size + 1) (w.alloc (.cells #[.int .i64 43, .int .i64 at_, .int .i64 n, .int .u16 v, .int .u16 an, .int .u16 orr, .slice BA bl bc, .slice WA wl wc, .int .i64 ra, .int .i64 rn, .int .i64 co, .int .i64 ob] 48)) w4 := by
         rwa [show (w.alloc (.cells #[.int .i64 43, .int .i64 at_, .int .i64 n, .int .u16 v, .int .u16 an, .int .u16 orr, .slice BA bl bc, .slice WA wl wc, .int .i64 ra, .int .i64 rn, .int .i64 co, .int .i64 ob] 48)).heap.size = w.heap.size + 1 by simp] at hb4
       obtain ⟨hc0, hc1, hc2, hc3, hc4, hc5, hc6, hc7, hc8, hc9, hc10, hc11⟩ := box12 _ _ _ _ _ _ _ _ _ _ _ _ _ w w4 hk4
       have hs4 : w.heap.size < w4.heap.size := Nat.lt_of_lt_of_le (by simp) hk4.size
       clear hb4 hk4 hc2 hc8 hc9 hc10 hc11)
    | (go_at_call 44; (with_reducible refine (table_lit 43 _ _ _ HT1.out HT2.out).mono ?_); rintro e w' ⟨rfl, rfl⟩)
    | fail)
  all_goals
    go_wp2
    go_ret
    exact ⟨none, 0, 0, rfl, by omega, CO.nil _ _, HB4.out.alloc HB4.out.size _⟩

end Go.Proofs.Ytielfekkonflfaa

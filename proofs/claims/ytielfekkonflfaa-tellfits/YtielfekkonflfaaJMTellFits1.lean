/- Joined: PParseT PBf. -/
import Derived.Test.YtielfekkonflfaaJTellBack1
import Derived.Test.YtielfekkonflfaaPBox14
import Derived.Test.YtielfekkonflfaaJTellBack2
import Derived.Test.YtielfekkonflfaaJTellBack5
namespace Go.Proofs.Ytielfekkonflfaa
open Go.ChangeShapes Go.WideShapes Go.ChangeAt Go.RowKit
set_option linter.unusedVariables false
set_option linter.unusedSimpArgs false

set_option maxRecDepth 100000 in
set_option maxHeartbeats 1000000 in
theorem pp_bad (A : Option Addr) (n c : Nat) (m : Int) (w : World) (fn ex : Int) (bl wl : Nat) (at_ q v an orr co le : Int) (mo : Bool) (nx : Int) (ol : Nat)
    (hF : ∀ W, Below w.heap.size w W → Calls Try.prog 26 #[.slice A n c, .int .i64 m] W fun e w' => ∃ BA bc WA wc OA oc, e = .returned (.tuple #[.agg #[.int .i64 fn, .int .i64 ex, .slice BA bl bc, .slice WA wl wc, .int .i64 at_, .int .i64 q, .int .u16 v, .int .u16 an, .int .u16 orr, .int .i64 co, .int .i64 le, .bool mo, .int .i64 nx, .slice OA ol oc], .bool false]) ∧ Below W.heap.size W w') :
    Calls Try.prog 8 #[.slice A n c, .int .i64 m] w fun e w' => e = .returned (.tuple #[.agg #[.int .i64 0, .int .i64 0, .slice none 0 0, .slice none 0 0, .int .i64 0, .int .i64 0, .int .u16 0, .int .u16 0, .int .u16 0, .int .i64 0, .int .i64 0, .bool false, .int .i64 0, .slice none 0 0], .int .i64 2]) ∧ Below w.heap.size w w' := by
  have HF := Lib.hid hF
  clear hF
  go_enter Try.func8, Try.ntmps8
  go_wp2_with (first
    | (go_at_call 26
       refine (HF.out _ ((Below.refl _ _).alloc (Nat.le_refl _) _)).mono ?_
       rintro e w1 ⟨BA, bc, WA, wc, OA, oc, rfl, hb1⟩
       have hk1 : Below (w.heap.size + 1) (w.alloc (.cells #[.int .i64 0, .int .i64 0, .slice none 0 0, .slice none 0 0, .int .i64 0, .int .i64 0, .int .u16 0, .int .u16 0, .int .u16 0, .int .i64 0, .int .i64 0, .bool false, .int .i64 0, .slice none 0 0] 28)) w1 := by
         rwa [show (w.alloc (.cells #[.int .i64 0, .int .i64 0, .slice none 0 0, .slice none 0 0, .int .i64 0, .int .i64 0, .int .u16 0, .int .u16 0, .int .u16 0, .int .i64 0, .int .i64 0, .bool false, .int .i64 0, .slice none 0 0] 28)).heap.size = w.heap.size + 1 by simp] at hb1
       have h0 := box14 _ _ _ _ _ _ _ _ _ _ _ _ _ _ _ w w1 hk1
       have hz1 : w.heap.size < w1.heap.size := h0.lt
       have HB1 : Hid (Below w.heap.size w w1) := ((Below.refl _ _).alloc (Nat.le_refl _) _).trans (hb1.mono (by simp))
       have hk2 : Below w1.heap.size w1 (w1.alloc (.cells #[.int .i64 fn, .int .i64 ex, .slice BA bl bc, .slice WA wl wc, .int .i64 at_, .int .i64 q, .int .u16 v, .int .u16 an, .int .u16 orr, .int .i64 co, .int .i64 le, .bool mo, .int .i64 nx, .slice OA ol oc] 28)) := (Below.refl _ _).alloc (Nat.le_refl _) _
       have hg0 := h0.below hk2 hz1
       have HG0 := Lib.hid hg0
       have HK2 : Hid (Below w.heap.size w (w1.alloc (.cells #[.int .i64 fn, .int .i64 ex, .slice BA bl bc, .slice WA wl wc, .int .i64 at_, .int .i64 q, .int .u16 v, .int .u16 an, .int .u16 orr, .int .i64 co, .int .i64 le, .bool mo, .int .i64 nx, .slice OA ol oc] 28))) := HB1.out.trans (hk2.mono HB1.out.size)
       have H01 := Lib.hid h0
       obtain ⟨hq0, hq1, hq2, hq3, hq4, hq5, hq6, hq7, hq8, hq9, hq10, hq11, hq12, hq13⟩ := cells14 h0
       have hf0 := h0.frozen 0
       have hf1 := h0.frozen 1
       have hf2 := h0.frozen 2
       have hf3 := h0.frozen 3
       have hf4 := h0.frozen 4
       have hf5 := h0.frozen 5
       have hf6 := h0.frozen 6
       have hf7 := h0.frozen 7
       have hf8 := h0.frozen 8
       have hf9 := h0.frozen 9
       have hf10 := h0.frozen 10
       have hf11 := h0.frozen 11
       have hf12 := h0.frozen 12
       have hf13 := h0.frozen 13
       clear hb1 hk1 h0 hk2 hg0))
  exact end14a Try.results8 H01.out rfl HB1.out (Nat.le_refl _) rfl rfl fun w9 hbb hs hk => ⟨rfl, hbb.alloc hs _⟩

set_option maxRecDepth 100000 in
set_option maxHeartbeats 1000000 in
theorem pp_ok (A : Option Addr) (n c : Nat) (m : Int) (w : World) (fn ex : Int) (bl wl : Nat) (at_ q v an orr co le : Int) (mo : Bool) (nx : Int) (ol : Nat) (fo : Bool) (R : Nat → World → Option Addr → Nat → Option Addr → Nat → Option Addr → Nat → Prop)
    (hF : ∀ W, Below w.heap.size w W → Calls Try.prog 26 #[.slice A n c, .int .i64 m] W fun e w' => ∃ BA bc WA wc OA oc, e = .returned (.tuple #[.agg #[.int .i64 fn, .int .i64 ex, .slice BA bl bc, .slice WA wl wc, .int .i64 at_, .int .i64 q, .int .u16 v, .int .u16 an, .int .u16 orr, .int .i64 co, .int .i64 le, .bool mo, .int .i64 nx, .slice OA ol oc], .bool true]) ∧ R W.heap.size w' BA bc WA wc OA oc ∧ Below W.heap.size W w')
    (hRk : ∀ base X Y BA bc WA wc OA oc, R base X BA bc WA wc OA oc → Below X.heap.size X Y → R base Y BA bc WA wc OA oc)
    (hRs : ∀ base X (p : Addr) (u : Value) BA bc WA wc OA oc, R base X BA bc WA wc OA oc → p.block < base → R base (X.setCell p u) BA bc WA wc OA oc)
    (hfit : ∀ base X BA bc WA wc OA oc, R base X BA bc WA wc OA oc → Fits X OA ol oc fo) (hw : WideT at_ q v an orr co le nx)
    (hp : decide (tellP fn ex bl wl at_ q v an orr co le mo.toNat nx ol fo.toNat) = true) :
    Calls Try.prog 8 #[.slice A n c, .int .i64 m] w fun e w' => ∃ BA bc WA wc OA oc, e = .returned (.tuple #[.agg #[.int .i64 fn, .int .i64 ex, .slice BA bl bc, .slice WA wl wc, .int .i64 at_, .int .i64 q, .int .u16 v, .int .u16 an, .int .u16 orr, .int .i64 co, .int .i64 le, .bool mo, .int .i64 nx, .slice OA ol oc], .int .i64 0]) ∧ R (w.heap.size + 1) w' BA bc WA wc OA oc ∧ Below w.heap.size w w' := by
  have HF := Lib.hid hF
  have HW := Lib.hid hw
  have HP := Lib.hid hp
  clear hF hw hp
  go_enter Try.func8, Try.ntmps8
  go_wp2_with (first
    | (go_at_call 26
       refine (HF.out _ ((Below.refl _ _).alloc (Nat.le_refl _) _)).mono ?_
       rintro e w1 ⟨BA, bc, WA, wc, OA, oc, rfl, hR1, hb1⟩
       have hk1 : Below (w.heap.size + 1) (w.alloc (.cells #[.int .i64 0, .int .i64 0, .slice none 0 0, .slice none 0 0, .int .i64 0, .int .i64 0, .int .u16 0, .int .u16 0, .int .u16 0, .int .i64 0, .int .i64 0, .bool false, .int .i64 0, .slice none 0 0] 28)) w1 := by
         rwa [show (w.alloc (.cells #[.int .i64 0, .int .i64 0, .slice none 0 0, .slice none 0 0, .int .i64 0, .int .i64 0, .int .u16 0, .int .u16 0, .int .u16 0, .int .i64 0, .int .i64 0, .bool false, .int .i64 0, .slice none 0 0] 28)).heap.size = w.heap.size + 1 by simp] at hb1
       have h0 := box14 _ _ _ _ _ _ _ _ _ _ _ _ _ _ _ w w1 hk1
       have hz1 : w.heap.size < w1.heap.size := h0.lt
       have HB1 : Hid (Below w.heap.size w w1) := ((Below.refl _ _).alloc (Nat.le_refl _) _).trans (hb1.mono (by simp))
       have hk2 : Below w1.heap.size w1 (w1.alloc (.cells #[.int .i64 fn, .int .i64 ex, .slice BA bl bc, .slice WA wl wc, .int .i64 at_, .int .i64 q, .int .u16 v, .int .u16 an, .int .u16 orr, .int .i64 co, .int .i64 le, .bool mo, .int .i64 nx, .slice OA ol oc] 28)) := (Below.refl _ _).alloc (Nat.le_refl _) _
       have hg0 := h0.below hk2 hz1
       have HG0 := Lib.hid hg0
       have HK2 : Hid (Below w.heap.size w (w1.alloc (.cells #[.int .i64 fn, .int .i64 ex, .slice BA bl bc, .slice WA wl wc, .int .i64 at_, .int .i64 q, .int .u16 v, .int .u16 an, .int .u16 orr, .int .i64 co, .int .i64 le, .bool mo, .int .i64 nx, .slice OA ol oc] 28))) := HB1.out.trans (hk2.mono HB1.out.size)
       have H01 := Lib.hid h0
       rw [show (w.alloc (.cells #[.int .i64 0, .int .i64 0, .slice none 0 0, .slice none 0 0, .int .i64 0, .int .i64 0, .int .u16 0, .int .u16 0, .int .u16 0, .int .i64 0, .int .i64 0, .bool false, .int .i64 0, .slice none 0 0] 28)).heap.size = w.heap.size + 1 by simp] at hR1
       have HR1 := Lib.hid hR1
       have HFT := Lib.hid ((hfit _ _ _ _ _ _ _ _ hR1).on hk2)
       obtain ⟨hq0, hq1, hq2, hq3, hq4, hq5, hq6, hq7, hq8, hq9, hq10, hq11, hq12, hq13⟩ := cells14 h0
       have hf0 := h0.frozen 0
       have hf1 := h0.frozen 1
       have hf2 := h0.frozen 2
       have hf3 := h0.frozen 3
       have hf4 := h0.frozen 4
       have hf5 := h0.frozen 5
       have hf6 := h0.frozen 6
       have hf7 := h0.frozen 7
       have hf8 := h0.frozen 8
       have hf9 := h0.frozen 9
       have hf10 := h0.frozen 10
       have hf11 := h0.frozen 11
       have hf12 := h0.frozen 12
       have hf13 := h0.frozen 13
       clear hb1 hk1 h0 hk2 hg0 hR1)
    | (go_at_call 9
       refine (ptr_any fn ex bl wl at_ q v an orr co le mo nx ol BA WA OA bc wc oc _ fo _ HW.out HFT.out HP.out).mono ?_
       rintro e w2 ⟨rfl, hb2⟩
       have hk3 : Below (w1.heap.size + 1) (w1.alloc (.cells #[.int .i64 fn, .int .i64 ex, .slice BA bl bc, .slice WA wl wc, .int .i64 at_, .int .i64 q, .int .u16 v, .int .u16 an, .int .u16 orr, .int .i64 co, .int .i64 le, .bool mo, .int .i64 nx, .slice OA ol oc] 28)) w2 := by
         rwa [show (w1.alloc (.cells #[.int .i64 fn, .int .i64 ex, .slice BA bl bc, .slice WA wl wc, .int .i64 at_, .int .i64 q, .int .u16 v, .int .u16 an, .int .u16 orr, .int .i64 co, .int .i64 le, .bool mo, .int .i64 nx, .slice OA ol oc] 28)).heap.size = w1.heap.size + 1 by simp] at hb2
       have ht := box14 _ _ _ _ _ _ _ _ _ _ _ _ _ _ _ w1 w2 hk3
       have hb12 : Below w1.heap.size w1 w2 := ((Below.refl _ _).alloc (Nat.le_refl _) _).trans (hb2.mono (by simp))
       have h02 := H01.out.below hb12 hz1
       have HB2 : Hid (Below w.heap.size w w2) := HB1.out.trans (hb12.mono HB1.out.size)
       have hz2 : w.heap.size < w2.heap.size := h02.lt
       have hz3 : w1.heap.size < w2.heap.size := ht.lt
       have hz4 : w.heap.size < w1.heap.size := hz1
       have HR2 := Lib.hid (hRk _ _ _ _ _ _ _ _ _ HR1.out hb12)
       have H02 := Lib.hid h02
       obtain ⟨hu0, hu1, hu2, hu3, hu4, hu5, hu6, hu7, hu8, hu9, hu10, hu11, hu12, hu13⟩ := cells14 h02
       obtain ⟨hv0, hv1, hv2, hv3, hv4, hv5, hv6, hv7, hv8, hv9, hv10, hv11, hv12, hv13⟩ := cells14 ht
       have hx0 := h02.frozen 0
       have hx1 := h02.frozen 1
       have hx2 := h02.frozen 2
       have hx3 := h02.frozen 3
       have hx4 := h02.frozen 4
       have hx5 := h02.frozen 5
       have hx6 := h02.frozen 6
       have hx7 := h02.frozen 7
       have hx8 := h02.frozen 8
       have hx9 := h02.frozen 9
       have hx10 := h02.frozen 10
       have hx11 := h02.frozen 11
       have hx12 := h02.frozen 12
       have hx13 := h02.frozen 13
       clear hb2 hk3 ht hb12 h02))
  obtain ⟨w9, hw9⟩ : ∃ w9, (((((((((((((((w2.setCell ⟨w.heap.size, 0, none⟩ (.int .i64 fn)).setCell ⟨w.heap.size, 1, none⟩ (.int .i64 ex)).setCell ⟨w.heap.size, 2, none⟩ (.slice BA bl bc)).setCell ⟨w.heap.size, 3, none⟩ (.slice WA wl wc)).setCell ⟨w.heap.size, 4, none⟩ (.int .i64 at_)).setCell ⟨w.heap.size, 5, none⟩ (.int .i64 q)).setCell ⟨w.heap.size, 6, none⟩ (.int .u16 v)).setCell ⟨w.heap.size, 7, none⟩ (.int .u16 an)).setCell ⟨w.heap.size, 8, none⟩ (.int .u16 orr)).setCell ⟨w.heap.size, 9, none⟩ (.int .i64 co)).setCell ⟨w.heap.size, 10, none⟩ (.int .i64 le)).setCell ⟨w.heap.size, 11, none⟩ (.bool mo)).setCell ⟨w.heap.size, 12, none⟩ (.int .i64 nx)).setCell ⟨w.heap.size, 13, none⟩ (.slice OA ol oc))) = w9 := ⟨_, rfl⟩
  have hwh := all14 H02.out (.int .i64 fn) (.int .i64 ex) (.slice BA bl bc) (.slice WA wl wc) (.int .i64 at_) (.int .i64 q) (.int .u16 v) (.int .u16 an) (.int .u16 orr) (.int .i64 co) (.int .i64 le) (.bool mo) (.int .i64 nx) (.slice OA ol oc) rfl
  have hbb := bel14 HB2.out (.int .i64 fn) (.int .i64 ex) (.slice BA bl bc) (.slice WA wl wc) (.int .i64 at_) (.int .i64 q) (.int .u16 v) (.int .u16 an) (.int .u16 orr) (.int .i64 co) (.int .i64 le) (.bool mo) (.int .i64 nx) (.slice OA ol oc)
  rw [hw9] at hwh hbb
  have hr9 : R (w.heap.size + 1) w9 BA bc WA wc OA oc := by rw [← hw9]; exact (hRs _ _ ⟨w.heap.size, 13, none⟩ _ _ _ _ _ _ _ (hRs _ _ ⟨w.heap.size, 12, none⟩ _ _ _ _ _ _ _ (hRs _ _ ⟨w.heap.size, 11, none⟩ _ _ _ _ _ _ _ (hRs _ _ ⟨w.heap.size, 10, none⟩ _ _ _ _ _ _ _ (hRs _ _ ⟨w.heap.size, 9, none⟩ _ _ _ _ _ _ _ (hRs _ _ ⟨w.heap.size, 8, none⟩ _ _ _ _ _ _ _ (hRs _ _ ⟨w.heap.size, 7, none⟩ _ _ _ _ _ _ _ (hRs _ _ ⟨w.heap.size, 6, none⟩ _ _ _ _ _ _ _ (hRs _ _ ⟨w.heap.size, 5, none⟩ _ _ _ _ _ _ _ (hRs _ _ ⟨w.heap.size, 4, none⟩ _ _ _ _ _ _ _ (hRs _ _ ⟨w.heap.size, 3, none⟩ _ _ _ _ _ _ _ (hRs _ _ ⟨w.heap.size, 2, none⟩ _ _ _ _ _ _ _ (hRs _ _ ⟨w.heap.size, 1, none⟩ _ _ _ _ _ _ _ (hRs _ _ ⟨w.heap.size, 0, none⟩ _ _ _ _ _ _ _ HR2.out (Nat.lt_succ_self _)) (Nat.lt_succ_self _)) (Nat.lt_succ_self _)) (Nat.lt_succ_self _)) (Nat.lt_succ_self _)) (Nat.lt_succ_self _)) (Nat.lt_succ_self _)) (Nat.lt_succ_self _)) (Nat.lt_succ_self _)) (Nat.lt_succ_self _)) (Nat.lt_succ_self _)) (Nat.lt_succ_self _)) (Nat.lt_succ_self _)) (Nat.lt_succ_self _))
  rw [hw9]
  have hz9 : w.heap.size < w9.heap.size := hwh.lt
  obtain ⟨he0, he1, he2, he3, he4, he5, he6, he7, he8, he9, he10, he11, he12, he13⟩ := cells14 hwh
  exact bodyPost_ret (v := .tuple #[.agg #[.int .i64 fn, .int .i64 ex, .slice BA bl bc, .slice WA wl wc, .int .i64 at_, .int .i64 q, .int .u16 v, .int .u16 an, .int .u16 orr, .int .i64 co, .int .i64 le, .bool mo, .int .i64 nx, .slice OA ol oc], .int .i64 0]) (by simp [results, Try.results8, go_sem, he0, he1, he2, he3, he4, he5, he6, he7, he8, he9, he10, he11, he12, he13]) rfl ⟨BA, bc, WA, wc, OA, oc, rfl, hr9, hbb⟩

set_option maxRecDepth 100000 in
set_option maxHeartbeats 1000000 in
theorem pp_not (A : Option Addr) (n c : Nat) (m : Int) (w : World) (fn ex : Int) (bl wl : Nat) (at_ q v an orr co le : Int) (mo : Bool) (nx : Int) (ol : Nat) (fo : Bool) (R : Nat → World → Option Addr → Nat → Option Addr → Nat → Option Addr → Nat → Prop)
    (hF : ∀ W, Below w.heap.size w W → Calls Try.prog 26 #[.slice A n c, .int .i64 m] W fun e w' => ∃ BA bc WA wc OA oc, e = .returned (.tuple #[.agg #[.int .i64 fn, .int .i64 ex, .slice BA bl bc, .slice WA wl wc, .int .i64 at_, .int .i64 q, .int .u16 v, .int .u16 an, .int .u16 orr, .int .i64 co, .int .i64 le, .bool mo, .int .i64 nx, .slice OA ol oc], .bool true]) ∧ R W.heap.size w' BA bc WA wc OA oc ∧ Below W.heap.size W w')
    (hRk : ∀ base X Y BA bc WA wc OA oc, R base X BA bc WA wc OA oc → Below X.heap.size X Y → R base Y BA bc WA wc OA oc)
    (hRs : ∀ base X (p : Addr) (u : Value) BA bc WA wc OA oc, R base X BA bc WA wc OA oc → p.block < base → R base (X.setCell p u) BA bc WA wc OA oc)
    (hfit : ∀ base X BA bc WA wc OA oc, R base X BA bc WA wc OA oc → Fits X OA ol oc fo) (hw : WideT at_ q v an orr co le nx)
    (hp : decide (tellP fn ex bl wl at_ q v an orr co le mo.toNat nx ol fo.toNat) = false) :
    Calls Try.prog 8 #[.slice A n c, .int .i64 m] w fun e w' => e = .returned (.tuple #[.agg #[.int .i64 0, .int .i64 0, .slice none 0 0, .slice none 0 0, .int .i64 0, .int .i64 0, .int .u16 0, .int .u16 0, .int .u16 0, .int .i64 0, .int .i64 0, .bool false, .int .i64 0, .slice none 0 0], .int .i64 2]) ∧ Below w.heap.size w w' := by
  have HF := Lib.hid hF
  have HW := Lib.hid hw
  have HP := Lib.hid hp
  clear hF hw hp
  go_enter Try.func8, Try.ntmps8
  go_wp2_with (first
    | (go_at_call 26
       refine (HF.out _ ((Below.refl _ _).alloc (Nat.le_refl _) _)).mono ?_
       rintro e w1 ⟨BA, bc, WA, wc, OA, oc, rfl, hR1, hb1⟩
       have hk1 : Below (w.heap.size + 1) (w.alloc (.cells #[.int .i64 0, .int .i64 0, .slice none 0 0, .slice none 0 0, .int .i64 0, .int .i64 0, .int .u16 0, .int .u16 0, .int .u16 0, .int .i64 0, .int .i64 0, .bool false, .int .i64 0, .slice none 0 0] 28)) w1 := by
         rwa [show (w.alloc (.cells #[.int .i64 0, .int .i64 0, .slice none 0 0, .slice none 0 0, .int .i64 0, .int .i64 0, .int .u16 0, .int .u16 0, .int .u16 0, .int .i64 0, .int .i64 0, .bool false, .int .i64 0, .slice none 0 0] 28)).heap.size = w.heap.size + 1 by simp] at hb1
       have h0 := box14 _ _ _ _ _ _ _ _ _ _ _ _ _ _ _ w w1 hk1
       have hz1 : w.heap.size < w1.heap.size := h0.lt
       have HB1 : Hid (Below w.heap.size w w1) := ((Below.refl _ _).alloc (Nat.le_refl _) _).trans (hb1.mono (by simp))
       have hk2 : Below w1.heap.size w1 (w1.alloc (.cells #[.int .i64 fn, .int .i64 ex, .slice BA bl bc, .slice WA wl wc, .int .i64 at_, .int .i64 q, .int .u16 v, .int .u16 an, .int .u16 orr, .int .i64 co, .int .i64 le, .bool mo, .int .i64 nx, .slice OA ol oc] 28)) := (Below.refl _ _).alloc (Nat.le_refl _) _
       have hg0 := h0.below hk2 hz1
       have HG0 := Lib.hid hg0
       have HK2 : Hid (Below w.heap.size w (w1.alloc (.cells #[.int .i64 fn, .int .i64 ex, .slice BA bl bc, .slice WA wl wc, .int .i64 at_, .int .i64 q, .int .u16 v, .int .u16 an, .int .u16 orr, .int .i64 co, .int .i64 le, .bool mo, .int .i64 nx, .slice OA ol oc] 28))) := HB1.out.trans (hk2.mono HB1.out.size)
       have H01 := Lib.hid h0
       rw [show (w.alloc (.cells #[.int .i64 0, .int .i64 0, .slice none 0 0, .slice none 0 0, .int .i64 0, .int .i64 0, .int .u16 0, .int .u16 0, .int .u16 0, .int .i64 0, .int .i64 0, .bool false, .int .i64 0, .slice none 0 0] 28)).heap.size = w.heap.size + 1 by simp] at hR1
       have HR1 := Lib.hid hR1
       have HFT := Lib.hid ((hfit _ _ _ _ _ _ _ _ hR1).on hk2)
       obtain ⟨hq0, hq1, hq2, hq3, hq4, hq5, hq6, hq7, hq8, hq9, hq10, hq11, hq12, hq13⟩ := cells14 h0
       have hf0 := h0.frozen 0
       have hf1 := h0.frozen 1
       have hf2 := h0.frozen 2
       have hf3 := h0.frozen 3
       have hf4 := h0.frozen 4
       have hf5 := h0.frozen 5
       have hf6 := h0.frozen 6
       have hf7 := h0.frozen 7
       have hf8 := h0.frozen 8
       have hf9 := h0.frozen 9
       have hf10 := h0.frozen 10
       have hf11 := h0.frozen 11
       have hf12 := h0.frozen 12
       have hf13 := h0.frozen 13
       clear hb1 hk1 h0 hk2 hg0 hR1)
    | (go_at_call 9
       refine (ptr_any fn ex bl wl at_ q v an orr co le mo nx ol BA WA OA bc wc oc _ fo _ HW.out HFT.out HP.out).mono ?_
       rintro e w2 ⟨rfl, hb2⟩
       have hk3 : Below (w1.heap.size + 1) (w1.alloc (.cells #[.int .i64 fn, .int .i64 ex, .slice BA bl bc, .slice WA wl wc, .int .i64 at_, .int .i64 q, .int .u16 v, .int .u16 an, .int .u16 orr, .int .i64 co, .int .i64 le, .bool mo, .int .i64 nx, .slice OA ol oc] 28)) w2 := by
         rwa [show (w1.alloc (.cells #[.int .i64 fn, .int .i64 ex, .slice BA bl bc, .slice WA wl wc, .int .i64 at_, .int .i64 q, .int .u16 v, .int .u16 an, .int .u16 orr, .int .i64 co, .int .i64 le, .bool mo, .int .i64 nx, .slice OA ol oc] 28)).heap.size = w1.heap.size + 1 by simp] at hb2
       have ht := box14 _ _ _ _ _ _ _ _ _ _ _ _ _ _ _ w1 w2 hk3
       have hb12 : Below w1.heap.size w1 w2 := ((Below.refl _ _).alloc (Nat.le_refl _) _).trans (hb2.mono (by simp))
       have h02 := H01.out.below hb12 hz1
       have HB2 : Hid (Below w.heap.size w w2) := HB1.out.trans (hb12.mono HB1.out.size)
       have hz2 : w.heap.size < w2.heap.size := h02.lt
       have hz3 : w1.heap.size < w2.heap.size := ht.lt
       have hz4 : w.heap.size < w1.heap.size := hz1
       have H02 := Lib.hid h02
       obtain ⟨hu0, hu1, hu2, hu3, hu4, hu5, hu6, hu7, hu8, hu9, hu10, hu11, hu12, hu13⟩ := cells14 h02
       obtain ⟨hv0, hv1, hv2, hv3, hv4, hv5, hv6, hv7, hv8, hv9, hv10, hv11, hv12, hv13⟩ := cells14 ht
       have hx0 := h02.frozen 0
       have hx1 := h02.frozen 1
       have hx2 := h02.frozen 2
       have hx3 := h02.frozen 3
       have hx4 := h02.frozen 4
       have hx5 := h02.frozen 5
       have hx6 := h02.frozen 6
       have hx7 := h02.frozen 7
       have hx8 := h02.frozen 8
       have hx9 := h02.frozen 9
       have hx10 := h02.frozen 10
       have hx11 := h02.frozen 11
       have hx12 := h02.frozen 12
       have hx13 := h02.frozen 13
       clear hb2 hk3 ht hb12 h02))
  exact end14 Try.results8 H02.out rfl HB2.out (Nat.le_refl _) rfl rfl fun w9 hbb hk => ⟨rfl, hbb⟩

/-- A reply's numbers and lists. -/
structure TV where
  fn : Int := 0
  ex : Int := 0
  bl : Nat := 0
  wl : Nat := 0
  at_ : Int := 0
  q : Int := 0
  v : Int := 0
  an : Int := 0
  orr : Int := 0
  co : Int := 0
  le : Int := 0
  mo : Bool := false
  nx : Int := 0
  ol : Nat := 0
  bs : List Bool := []
  ws : List Int := []
  os : List Ob := []
def TV.agg (t : TV) (BA : Option Addr) (bc : Nat) (WA : Option Addr) (wc : Nat) (OA : Option Addr) (oc : Nat) : Value := .agg #[.int .i64 t.fn, .int .i64 t.ex, .slice BA t.bl bc, .slice WA t.wl wc, .int .i64 t.at_, .int .i64 t.q, .int .u16 t.v, .int .u16 t.an, .int .u16 t.orr, .int .i64 t.co, .int .i64 t.le, .bool t.mo, .int .i64 t.nx, .slice OA t.ol oc]
/-- Its lists lie in rows of the call's own. -/
def TV.Rd (t : TV) (base : Nat) (X : World) (BA : Option Addr) (bc : Nat) (WA : Option Addr) (wc : Nat) (OA : Option Addr) (oc : Nat) : Prop :=
  X.ownsRow base 4 1 (.slice BA t.bl bc) t.bl (t.bs.map Value.bool) ∧ X.ownsRow base 25 1 (.slice WA t.wl wc) t.wl (t.ws.map (Value.int .u16)) ∧ X.ownsRow base 57 2 (.slice OA t.ol oc) t.ol (obs t.os)
/-- Its numbers are such as a reply may have. -/
structure TV.Fine (t : TV) : Prop where
  wide : WideT t.at_ t.q t.v t.an t.orr t.co t.le t.nx
  bl : t.bl ≤ 100000
  wl : t.wl ≤ 100000
  ol : t.ol ≤ 100000
  sizes : ∀ o ∈ t.os, o.2.size ≤ 1000000
abbrev TV.right (t : TV) : Prop := tellP t.fn t.ex t.bl t.wl t.at_ t.q t.v t.an t.orr t.co t.le t.mo.toNat t.nx t.ol (decide (fitP t.os)).toNat
def TOk (F : FuncId) (A : Option Addr) (n c : Nat) (m : Int) (t : TV) (w : World) : Prop :=
  Calls Try.prog F #[.slice A n c, .int .i64 m] w fun e w' => ∃ BA bc WA wc OA oc, e = .returned (.tuple #[t.agg BA bc WA wc OA oc, .bool true]) ∧ t.Rd w.heap.size w' BA bc WA wc OA oc ∧ Below w.heap.size w w'
def TBad (F : FuncId) (A : Option Addr) (n c : Nat) (m : Int) (t : TV) (w : World) : Prop :=
  Calls Try.prog F #[.slice A n c, .int .i64 m] w fun e w' => ∃ BA bc WA wc OA ol oc, e = .returned (.tuple #[({ t with ol := ol } : TV).agg BA bc WA wc OA oc, .bool false]) ∧ Below w.heap.size w w'
def TZero (F : FuncId) (A : Option Addr) (n c : Nat) (m : Int) (w : World) : Prop :=
  Calls Try.prog F #[.slice A n c, .int .i64 m] w fun e w' => e = .returned (.tuple #[({} : TV).agg none 0 none 0 none 0, .int .i64 2]) ∧ Below w.heap.size w w'
def TGot (F : FuncId) (A : Option Addr) (n c : Nat) (m : Int) (t : TV) (w : World) : Prop :=
  Calls Try.prog F #[.slice A n c, .int .i64 m] w fun e w' => ∃ BA bc WA wc OA oc, e = .returned (.tuple #[t.agg BA bc WA wc OA oc, .int .i64 0]) ∧ t.Rd (w.heap.size + 1) w' BA bc WA wc OA oc ∧ Below w.heap.size w w'
/-- The bytes at hand, with room behind them for the program, or not for the document. -/
def PIn (zs : List Int) (n b off c : Nat) (w : World) : Prop := Row .u8 w w.heap.size (some ⟨b, off, none⟩) n zs ∧ n ≤ c ∧ (2 ≤ n → c ≠ 2)
def DIn (zs : List Int) (n b off c : Nat) (w : World) : Prop := Row .u8 w w.heap.size (some ⟨b, off, none⟩) n zs ∧ n ≤ c
theorem PIn.below {zs : List Int} {n b off c : Nat} {w W : World} (h : PIn zs n b off c w) (hb : Below w.heap.size w W) : PIn zs n b off c W := ⟨(h.1.below hb).more hb.size, h.2⟩
theorem DIn.below {zs : List Int} {n b off c : Nat} {w W : World} (h : DIn zs n b off c w) (hb : Below w.heap.size w W) : DIn zs n b off c W := ⟨(h.1.below hb).more hb.size, h.2⟩
theorem DIn.cell {zs : List Int} {n b off c : Nat} {w : World} (h : DIn zs n b off c w) (hn : 1 ≤ n) : b < w.heap.size ∧ ∀ j, j < n → w.cell? ⟨b, off + j, none⟩ = some (.int .u8 (zs.getD j 0)) := by
  obtain ⟨b', off', e, hb, hc⟩ := h.1.2 (by omega)
  injection e with e
  injection e with e1 e2
  subst e1 e2
  exact ⟨hb, hc⟩

theorem TV.Rd.keep {t : TV} {base : Nat} {X Y : World} {BA : Option Addr} {bc : Nat} {WA : Option Addr} {wc : Nat} {OA : Option Addr} {oc : Nat} (h : t.Rd base X BA bc WA wc OA oc) (hb : Below X.heap.size X Y) : t.Rd base Y BA bc WA wc OA oc :=
  ⟨own_keep h.1 hb, own_keep h.2.1 hb, own2_keep h.2.2 hb⟩
theorem TV.Rd.set {t : TV} {base : Nat} {X : World} {BA : Option Addr} {bc : Nat} {WA : Option Addr} {wc : Nat} {OA : Option Addr} {oc : Nat} (h : t.Rd base X BA bc WA wc OA oc) (p : Addr) (u : Value) (hp : p.block < base) : t.Rd base (X.setCell p u) BA bc WA wc OA oc :=
  ⟨own_far h.1 p hp u, own_far h.2.1 p hp u, own2_low h.2.2 p hp u⟩
theorem TV.Rd.fits {t : TV} (hf : t.Fine) {base : Nat} {X : World} {BA : Option Addr} {bc : Nat} {WA : Option Addr} {wc : Nat} {OA : Option Addr} {oc : Nat} (h : t.Rd base X BA bc WA wc OA oc) : Fits X OA t.ol oc (decide (fitP t.os)) :=
  fits_any OA t.ol oc t.os X _ (ol_of_own h.2.2) hf.ol hf.sizes rfl
theorem rd_nil (t : TV) (base : Nat) (X : World) (h1 : t.bl = 0) (h2 : t.wl = 0) (h3 : t.ol = 0) (h4 : t.bs = []) (h5 : t.ws = []) (h6 : t.os = []) : t.Rd base X none 0 none 0 none 0 := by
  unfold TV.Rd
  rw [h1, h2, h3, h4, h5, h6]
  exact ⟨own_none _ _ _, own_none _ _ _, own2_none _ _ _⟩

section
variable {zs : List Int} {n : Nat} {m : Int} {t t' : TV}

theorem p_ok (hf : t.Fine) (hP : ∀ b off c w, PIn zs n b off c w → TOk 26 (some ⟨b, off, none⟩) n c m t w) {b off c : Nat} {w : World} (h : PIn zs n b off c w) (hr : t.right) : TGot 8 (some ⟨b, off, none⟩) n c m t w :=
  pp_ok (some ⟨b, off, none⟩) n c m w t.fn t.ex t.bl t.wl t.at_ t.q t.v t.an t.orr t.co t.le t.mo t.nx t.ol (decide (fitP t.os)) (fun base X BA bc WA wc OA oc => t.Rd base X BA bc WA wc OA oc) (fun W hW => hP b off c W (h.below hW))
    (fun _ _ _ _ _ _ _ _ _ hr hb => hr.keep hb) (fun _ _ p u _ _ _ _ _ _ hr hp => hr.set p u hp) (fun _ _ _ _ _ _ _ _ hr => hr.fits hf) hf.wide (decide_eq_true hr)
end

end Go.Proofs.Ytielfekkonflfaa

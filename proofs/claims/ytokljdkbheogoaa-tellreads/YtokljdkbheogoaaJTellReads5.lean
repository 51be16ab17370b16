/- Joined: PParseT PFieldT PFieldX PFieldB PBytesX Awake6. -/
import Derived.Test.YtokljdkbheogoaaJTellReads7
import Derived.Test.YtokljdkbheogoaaPBox14
import Derived.Test.YtokljdkbheogoaaTail
import Derived.Test.YtokljdkbheogoaaPTellX
namespace Go.Proofs.Ytokljdkbheogoaa
open Go.ChangeShapes Go.WideShapes Go.ChangeAt Go.RowKit
set_option linter.unusedVariables false
set_option linter.unusedSimpArgs false

set_option maxRecDepth 100000 in
set_option maxHeartbeats 1000000 in
theorem pp_bad (A : Option Addr) (n c : Nat) (m : Int) (w : World) (fn ex : Int) (bl wl : Nat) (at_ q v an orr co le : Int) (mo : Bool) (nx : Int) (ol : Nat)
    (hF : ∀ W, Below w.heap.size w W → Calls Try.prog 38 #[.slice A n c, .int .i64 m] W fun e w' => ∃ BA bc WA wc OA oc, e = .returned (.tuple #[.agg #[.int .i64 fn, .int .i64 ex, .slice BA bl bc, .slice WA wl wc, .int .i64 at_, .int .i64 q, .int .u16 v, .int .u16 an, .int .u16 orr, .int .i64 co, .int .i64 le, .bool mo, .int .i64 nx, .slice OA ol oc], .bool false]) ∧ Below W.heap.size W w') :
    Calls Try.prog 12 #[.slice A n c, .int .i64 m] w fun e w' => e = .returned (.tuple #[.agg #[.int .i64 0, .int .i64 0, .slice none 0 0, .slice none 0 0, .int .i64 0, .int .i64 0, .int .u16 0, .int .u16 0, .int .u16 0, .int .i64 0, .int .i64 0, .bool false, .int .i64 0, .slice none 0 0], .int .i64 2]) ∧ Below w.heap.size w w' := by
  have HF := Lib.hid hF
  clear hF
  go_enter Try.func12, Try.ntmps12
  go_wp2_with (first
    | (go_at_call 38
       refine (HF.out _ ((Below.refl _ _).alloc (Nat.le_refl _) _)).mono ?_
       rintro e w1 ⟨BA, bc, WA, wc, OA, oc, rfl, hb1⟩
       have hk1 : Below (w.heap.size + 1) (w.alloc (.cells #[.int .i64 0, .int .i64 0, .slice none 0 0, .slice none 0 0, .int .i64 0, .int .i64 0, .int .u16 0, .int .u16 0, .int .u16 0, .int .i64 0, .int .i64 0, .bool false, .int .i64 0, .slice none 0 0] 31)) w1 := by
         rwa [show (w.alloc (.cells #[.int .i64 0, .int .i64 0, .slice none 0 0, .slice none 0 0, .int .i64 0, .int .i64 0, .int .u16 0, .int .u16 0, .int .u16 0, .int .i64 0, .int .i64 0, .bool false, .int .i64 0, .slice none 0 0] 31)).heap.size = w.heap.size + 1 by simp] at hb1
       have h0 := box14 _ _ _ _ _ _ _ _ _ _ _ _ _ _ _ w w1 hk1
       have hz1 : w.heap.size < w1.heap.size := h0.lt
       have HB1 : Hid (Below w.heap.size w w1) := ((Below.refl _ _).alloc (Nat.le_refl _) _).trans (hb1.mono (by simp))
       have hk2 : Below w1.heap.size w1 (w1.alloc (.cells #[.int .i64 fn, .int .i64 ex, .slice BA bl bc, .slice WA wl wc, .int .i64 at_, .int .i64 q, .int .u16 v, .int .u16 an, .int .u16 orr, .int .i64 co, .int .i64 le, .bool mo, .int .i64 nx, .slice OA ol oc] 31)) := (Below.refl _ _).alloc (Nat.le_refl _) _
       have hg0 := h0.below hk2 hz1
       have HG0 := Lib.hid hg0
       have HK2 : Hid (Below w.heap.size w (w1.alloc (.cells #[.int .i64 fn, .int .i64 ex, .slice BA bl bc, .slice WA wl wc, .int .i64 at_, .int .i64 q, .int .u16 v, .int .u16 an, .int .u16 orr, .int .i64 co, .int .i64 le, .bool mo, .int .i64 nx, .slice OA ol oc] 31))) := HB1.out.trans (hk2.mono HB1.out.size)
       have H01 := Lib.hid h0
       obtain ⟨hq0, hq1, hq2, hq3, hq4, hq5, hq6, hq7, hq8, hq9, hq10, hq11, hq12, hq13⟩ := cells14 h0
       have hf0 := h0.frozen 0
       have hf1 := h0.frozen 1
       have hf2 := h0.frozen 2
       have hf3 := h0.frozen 3
       have hf4 := h0.frozen 4
       have hf5 := h0.frozen 5
       have hf6 := h0.frozen 6
       have hf7 := h0.frozen 7
       have hf8 := h0.frozen 8
       have hf9 := h0.frozen 9
       have hf10 := h0.frozen 10
       have hf11 := h0.frozen 11
       have hf12 := h0.frozen 12
       have hf13 := h0.frozen 13
       clear hb1 hk1 h0 hk2 hg0))
  obtain ⟨w9, hw9⟩ : ∃ w9, (((((((((((((((w1.setCell ⟨w.heap.size, 0, none⟩ (.int .i64 0)).setCell ⟨w.heap.size, 1, none⟩ (.int .i64 0)).setCell ⟨w.heap.size, 2, none⟩ (.slice none 0 0)).setCell ⟨w.heap.size, 3, none⟩ (.slice none 0 0)).setCell ⟨w.heap.size, 4, none⟩ (.int .i64 0)).setCell ⟨w.heap.size, 5, none⟩ (.int .i64 0)).setCell ⟨w.heap.size, 6, none⟩ (.int .u16 0)).setCell ⟨w.heap.size, 7, none⟩ (.int .u16 0)).setCell ⟨w.heap.size, 8, none⟩ (.int .u16 0)).setCell ⟨w.heap.size, 9, none⟩ (.int .i64 0)).setCell ⟨w.heap.size, 10, none⟩ (.int .i64 0)).setCell ⟨w.heap.size, 11, none⟩ (.bool false)).setCell ⟨w.heap.size, 12, none⟩ (.int .i64 0)).setCell ⟨w.heap.size, 13, none⟩ (.slice none 0 0))) = w9 := ⟨_, rfl⟩
  have hwh := all14 H01.out (.int .i64 0) (.int .i64 0) (.slice none 0 0) (.slice none 0 0) (.int .i64 0) (.int .i64 0) (.int .u16 0) (.int .u16 0) (.int .u16 0) (.int .i64 0) (.int .i64 0) (.bool false) (.int .i64 0) (.slice none 0 0) rfl
  have hbb := bel14 HB1.out (.int .i64 0) (.int .i64 0) (.slice none 0 0) (.slice none 0 0) (.int .i64 0) (.int .i64 0) (.int .u16 0) (.int .u16 0) (.int .u16 0) (.int .i64 0) (.int .i64 0) (.bool false) (.int .i64 0) (.slice none 0 0)
  rw [hw9] at hwh hbb
  rw [hw9]
  have hz9 : w.heap.size < w9.heap.size := hwh.lt
  obtain ⟨he0, he1, he2, he3, he4, he5, he6, he7, he8, he9, he10, he11, he12, he13⟩ := cells14 hwh
  exact bodyPost_ret (v := .tuple #[.agg #[.int .i64 0, .int .i64 0, .slice none 0 0, .slice none 0 0, .int .i64 0, .int .i64 0, .int .u16 0, .int .u16 0, .int .u16 0, .int .i64 0, .int .i64 0, .bool false, .int .i64 0, .slice none 0 0], .int .i64 2]) (by simp [results, Try.results12, go_sem, hz9, he0, he1, he2, he3, he4, he5, he6, he7, he8, he9, he10, he11, he12, he13]) rfl ⟨rfl, hbb.alloc hbb.size _⟩

set_option maxRecDepth 100000 in
set_option maxHeartbeats 1000000 in
theorem pp_ok (A : Option Addr) (n c : Nat) (m : Int) (w : World) (fn ex : Int) (bl wl : Nat) (at_ q v an orr co le : Int) (mo : Bool) (nx : Int) (ol : Nat) (fo : Bool) (R : Nat → World → Option Addr → Nat → Option Addr → Nat → Option Addr → Nat → Prop)
    (hF : ∀ W, Below w.heap.size w W → Calls Try.prog 38 #[.slice A n c, .int .i64 m] W fun e w' => ∃ BA bc WA wc OA oc, e = .returned (.tuple #[.agg #[.int .i64 fn, .int .i64 ex, .slice BA bl bc, .slice WA wl wc, .int .i64 at_, .int .i64 q, .int .u16 v, .int .u16 an, .int .u16 orr, .int .i64 co, .int .i64 le, .bool mo, .int .i64 nx, .slice OA ol oc], .bool true]) ∧ R W.heap.size w' BA bc WA wc OA oc ∧ Below W.heap.size W w')
    (hRk : ∀ base X Y BA bc WA wc OA oc, R base X BA bc WA wc OA oc → Below X.heap.size X Y → R base Y BA bc WA wc OA oc)
    (hRs : ∀ base X (p : Addr) (u : Value) BA bc WA wc OA oc, R base X BA bc WA wc OA oc → p.block < base → R base (X.setCell p u) BA bc WA wc OA oc)
    (hfit : ∀ base X BA bc WA wc OA oc, R base X BA bc WA wc OA oc → Fits X OA ol oc fo) (hw : WideT at_ q v an orr co le nx)
    (hp : decide (tellP fn ex bl wl at_ q v an orr co le mo.toNat nx ol fo.toNat) = true) :
    Calls Try.prog 12 #[.slice A n c, .int .i64 m] w fun e w' => ∃ BA bc WA wc OA oc, e = .returned (.tuple #[.agg #[.int .i64 fn, .int .i64 ex, .slice BA bl bc, .slice WA wl wc, .int .i64 at_, .int .i64 q, .int .u16 v, .int .u16 an, .int .u16 orr, .int .i64 co, .int .i64 le, .bool mo, .int .i64 nx, .slice OA ol oc], .int .i64 0]) ∧ R (w.heap.size + 1) w' BA bc WA wc OA oc ∧ Below w.heap.size w w' := by
  have HF := Lib.hid hF
  have HW := Lib.hid hw
  have HP := Lib.hid hp
  clear hF hw hp
  go_enter Try.func12, Try.ntmps12
  go_wp2_with (first
    | (go_at_call 38
       refine (HF.out _ ((Below.refl _ _).alloc (Nat.le_refl _) _)).mono ?_
       rintro e w1 ⟨BA, bc, WA, wc, OA, oc, rfl, hR1, hb1⟩
       have hk1 : Below (w.heap.size + 1) (w.alloc (.cells #[.int .i64 0, .int .i64 0, .slice none 0 0, .slice none 0 0, .int .i64 0, .int .i64 0, .int .u16 0, .int .u16 0, .int .u16 0, .int .i64 0, .int .i64 0, .bool false, .int .i64 0, .slice none 0 0] 31)) w1 := by
         rwa [show (w.alloc (.cells #[.int .i64 0, .int .i64 0, .slice none 0 0, .slice none 0 0, .int .i64 0, .int .i64 0, .int .u16 0, .int .u16 0, .int .u16 0, .int .i64 0, .int .i64 0, .bool false, .int .i64 0, .slice none 0 0] 31)).heap.size = w.heap.size + 1 by simp] at hb1
       have h0 := box14 _ _ _ _ _ _ _ _ _ _ _ _ _ _ _ w w1 hk1
       have hz1 : w.heap.size < w1.heap.size := h0.lt
       have HB1 : Hid (Below w.heap.size w w1) := ((Below.refl _ _).alloc (Nat.le_refl _) _).trans (hb1.mono (by simp))
       have hk2 : Below w1.heap.size w1 (w1.alloc (.cells #[.int .i64 fn, .int .i64 ex, .slice BA bl bc, .slice WA wl wc, .int .i64 at_, .int .i64 q, .int .u16 v, .int .u16 an, .int .u16 orr, .int .i64 co, .int .i64 le, .bool mo, .int .i64 nx, .slice OA ol oc] 31)) := (Below.refl _ _).alloc (Nat.le_refl _) _
       have hg0 := h0.below hk2 hz1
       have HG0 := Lib.hid hg0
       have HK2 : Hid (Below w.heap.size w (w1.alloc (.cells #[.int .i64 fn, .int .i64 ex, .slice BA bl bc, .slice WA wl wc, .int .i64 at_, .int .i64 q, .int .u16 v, .int .u16 an, .int .u16 orr, .int .i64 co, .int .i64 le, .bool mo, .int .i64 nx, .slice OA ol oc] 31))) := HB1.out.trans (hk2.mono HB1.out.size)
       have H01 := Lib.hid h0
       rw [show (w.alloc (.cells #[.int .i64 0, .int .i64 0, .slice none 0 0, .slice none 0 0, .int .i64 0, .int .i64 0, .int .u16 0, .int .u16 0, .int .u16 0, .int .i64 0, .int .i64 0, .bool false, .int .i64 0, .slice none 0 0] 31)).heap.size = w.heap.size + 1 by simp] at hR1
       have HR1 := Lib.hid hR1
       have HFT := Lib.hid ((hfit _ _ _ _ _ _ _ _ hR1).on hk2)
       obtain ⟨hq0, hq1, hq2, hq3, hq4, hq5, hq6, hq7, hq8, hq9, hq10, hq11, hq12, hq13⟩ := cells14 h0
       have hf0 := h0.frozen 0
       have hf1 := h0.frozen 1
       have hf2 := h0.frozen 2
       have hf3 := h0.frozen 3
       have hf4 := h0.frozen 4
       have hf5 := h0.frozen 5
       have hf6 := h0.frozen 6
       have hf7 := h0.frozen 7
       have hf8 := h0.frozen 8
       have hf9 := h0.frozen 9
       have hf10 := h0.frozen 10
       have hf11 := h0.frozen 11
       have hf12 := h0.frozen 12
       have hf13 := h0.frozen 13
       clear hb1 hk1 h0 hk2 hg0 hR1)
    | (go_at_call 18
       refine (ptr_any fn ex bl wl at_ q v an orr co le mo nx ol BA WA OA bc wc oc _ fo _ HW.out HFT.out HP.out).mono ?_
       rintro e w2 ⟨rfl, hb2⟩
       have hk3 : Below (w1.heap.size + 1) (w1.alloc (.cells #[.int .i64 fn, .int .i64 ex, .slice BA bl bc, .slice WA wl wc, .int .i64 at_, .int .i64 q, .int .u16 v, .int .u16 an, .int .u16 orr, .int .i64 co, .int .i64 le, .bool mo, .int .i64 nx, .slice OA ol oc] 31)) w2 := by
         rwa [show (w1.alloc (.cells #[.int .i64 fn, .int .i64 ex, .slice BA bl bc, .slice WA wl wc, .int .i64 at_, .int .i64 q, .int .u16 v, .int .u16 an, .int .u16 orr, .int .i64 co, .int .i64 le, .bool mo, .int .i64 nx, .slice OA ol oc] 31)).heap.size = w1.heap.size + 1 by simp] at hb2
       have ht := box14 _ _ _ _ _ _ _ _ _ _ _ _ _ _ _ w1 w2 hk3
       have hb12 : Below w1.heap.size w1 w2 := ((Below.refl _ _).alloc (Nat.le_refl _) _).trans (hb2.mono (by simp))
       have h02 := H01.out.below hb12 hz1
       have HB2 : Hid (Below w.heap.size w w2) := HB1.out.trans (hb12.mono HB1.out.size)
       have hz2 : w.heap.size < w2.heap.size := h02.lt
       have hz3 : w1.heap.size < w2.heap.size := ht.lt
       have hz4 : w.heap.size < w1.heap.size := hz1
       have HR2 := Lib.hid (hRk _ _ _ _ _ _ _ _ _ HR1.out hb12)
       have H02 := Lib.hid h02
       obtain ⟨hu0, hu1, hu2, hu3, hu4, hu5, hu6, hu7, hu8, hu9, hu10, hu11, hu12, hu13⟩ := cells14 h02
       obtain ⟨hv0, hv1, hv2, hv3, hv4, hv5, hv6, hv7, hv8, hv9, hv10, hv11, hv12, hv13⟩ := cells14 ht
       have hx0 := h02.frozen 0
       have hx1 := h02.frozen 1
       have hx2 := h02.frozen 2
       have hx3 := h02.frozen 3
       have hx4 := h02.frozen 4
       have hx5 := h02.frozen 5
       have hx6 := h02.frozen 6
       have hx7 := h02.frozen 7
       have hx8 := h02.frozen 8
       have hx9 := h02.frozen 9
       have hx10 := h02.frozen 10
       have hx11 := h02.frozen 11
       have hx12 := h02.frozen 12
       have hx13 := h02.frozen 13
       clear hb2 hk3 ht hb12 h02))
  obtain ⟨w9, hw9⟩ : ∃ w9, (((((((((((((((w2.setCell ⟨w.heap.size, 0, none⟩ (.int .i64 fn)).setCell ⟨w.heap.size, 1, none⟩ (.int .i64 ex)).setCell ⟨w.heap.size, 2, none⟩ (.slice BA bl bc)).setCell ⟨w.heap.size, 3, none⟩ (.slice WA wl wc)).setCell ⟨w.heap.size, 4, none⟩ (.int .i64 at_)).setCell ⟨w.heap.size, 5, none⟩ (.int .i64 q)).setCell ⟨w.heap.size, 6, none⟩ (.int .u16 v)).setCell ⟨w.heap.size, 7, none⟩ (.int .u16 an)).setCell ⟨w.heap.size, 8, none⟩ (.int .u16 orr)).setCell ⟨w.heap.size, 9, none⟩ (.int .i64 co)).setCell ⟨w.heap.size, 10, none⟩ (.int .i64 le)).setCell ⟨w.heap.size, 11, none⟩ (.bool mo)).setCell ⟨w.heap.size, 12, none⟩ (.int .i64 nx)).setCell ⟨w.heap.size, 13, none⟩ (.slice OA ol oc))) = w9 := ⟨_, rfl⟩
  have hwh := all14 H02.out (.int .i64 fn) (.int .i64 ex) (.slice BA bl bc) (.slice WA wl wc) (.int .i64 at_) (.int .i64 q) (.int .u16 v) (.int .u16 an) (.int .u16 orr) (.int .i64 co) (.int .i64 le) (.bool mo) (.int .i64 nx) (.slice OA ol oc) rfl
  have hbb := bel14 HB2.out (.int .i64 fn) (.int .i64 ex) (.slice BA bl bc) (.slice WA wl wc) (.int .i64 at_) (.int .i64 q) (.int .u16 v) (.int .u16 an) (.int .u16 orr) (.int .i64 co) (.int .i64 le) (.bool mo) (.int .i64 nx) (.slice OA ol oc)
  rw [hw9] at hwh hbb
  have hr9 : R (w.heap.size + 1) w9 BA bc WA wc OA oc := by rw [← hw9]; exact (hRs _ _ ⟨w.heap.size, 13, none⟩ _ _ _ _ _ _ _ (hRs _ _ ⟨w.heap.size, 12, none⟩ _ _ _ _ _ _ _ (hRs _ _ ⟨w.heap.size, 11, none⟩ _ _ _ _ _ _ _ (hRs _ _ ⟨w.heap.size, 10, none⟩ _ _ _ _ _ _ _ (hRs _ _ ⟨w.heap.size, 9, none⟩ _ _ _ _ _ _ _ (hRs _ _ ⟨w.heap.size, 8, none⟩ _ _ _ _ _ _ _ (hRs _ _ ⟨w.heap.size, 7, none⟩ _ _ _ _ _ _ _ (hRs _ _ ⟨w.heap.size, 6, none⟩ _ _ _ _ _ _ _ (hRs _ _ ⟨w.heap.size, 5, none⟩ _ _ _ _ _ _ _ (hRs _ _ ⟨w.heap.size, 4, none⟩ _ _ _ _ _ _ _ (hRs _ _ ⟨w.heap.size, 3, none⟩ _ _ _ _ _ _ _ (hRs _ _ ⟨w.heap.size, 2, none⟩ _ _ _ _ _ _ _ (hRs _ _ ⟨w.heap.size, 1, none⟩ _ _ _ _ _ _ _ (hRs _ _ ⟨w.heap.size, 0, none⟩ _ _ _ _ _ _ _ HR2.out (Nat.lt_succ_self _)) (Nat.lt_succ_self _)) (Nat.lt_succ_self _)) (Nat.lt_succ_self _)) (Nat.lt_succ_self _)) (Nat.lt_succ_self _)) (Nat.lt_succ_self _)) (Nat.lt_succ_self _)) (Nat.lt_succ_self _)) (Nat.lt_succ_self _)) (Nat.lt_succ_self _)) (Nat.lt_succ_self _)) (Nat.lt_succ_self _)) (Nat.lt_succ_self _))
  rw [hw9]
  have hz9 : w.heap.size < w9.heap.size := hwh.lt
  obtain ⟨he0, he1, he2, he3, he4, he5, he6, he7, he8, he9, he10, he11, he12, he13⟩ := cells14 hwh
  exact bodyPost_ret (v := .tuple #[.agg #[.int .i64 fn, .int .i64 ex, .slice BA bl bc, .slice WA wl wc, .int .i64 at_, .int .i64 q, .int .u16 v, .int .u16 an, .int .u16 orr, .int .i64 co, .int .i64 le, .bool mo, .int .i64 nx, .slice OA ol oc], .int .i64 0]) (by simp [results, Try.results12, go_sem, he0, he1, he2, he3, he4, he5, he6, he7, he8, he9, he10, he11, he12, he13]) rfl ⟨BA, bc, WA, wc, OA, oc, rfl, hr9, hbb⟩

set_option maxRecDepth 100000 in
set_option maxHeartbeats 1000000 in
theorem pp_not (A : Option Addr) (n c : Nat) (m : Int) (w : World) (fn ex : Int) (bl wl : Nat) (at_ q v an orr co le : Int) (mo : Bool) (nx : Int) (ol : Nat) (fo : Bool) (R : Nat → World → Option Addr → Nat → Option Addr → Nat → Option Addr → Nat → Prop)
    (hF : ∀ W, Below w.heap.size w W → Calls Try.prog 38 #[.slice A n c, .int .i64 m] W fun e w' => ∃ BA bc WA wc OA oc, e = .returned (.tuple #[.agg #[.int .i64 fn, .int .i64 ex, .slice BA bl bc, .slice WA wl wc, .int .i64 at_, .int .i64 q, .int .u16 v, .int .u16 an, .int .u16 orr, .int .i64 co, .int .i64 le, .bool mo, .int .i64 nx, .slice OA ol oc], .bool true]) ∧ R W.heap.size w' BA bc WA wc OA oc ∧ Below W.heap.size W w')
    (hRk : ∀ base X Y BA bc WA wc OA oc, R base X BA bc WA wc OA oc → Below X.heap.size X Y → R base Y BA bc WA wc OA oc)
    (hRs : ∀ base X (p : Addr) (u : Value) BA bc WA wc OA oc, R base X BA bc WA wc OA oc → p.block < base → R base (X.setCell p u) BA bc WA wc OA oc)
    (hfit : ∀ base X BA bc WA wc OA oc, R base X BA bc WA wc OA oc → Fits X OA ol oc fo) (hw : WideT at_ q v an orr co le nx)
    (hp : decide (tellP fn ex bl wl at_ q v an orr co le mo.toNat nx ol fo.toNat) = false) :
    Calls Try.prog 12 #[.slice A n c, .int .i64 m] w fun e w' => e = .returned (.tuple #[.agg #[.int .i64 0, .int .i64 0, .slice none 0 0, .slice none 0 0, .int .i64 0, .int .i64 0, .int .u16 0, .int .u16 0, .int .u16 0, .int .i64 0, .int .i64 0, .bool false, .int .i64 0, .slice none 0 0], .int .i64 2]) ∧ Below w.heap.size w w' := by
  have HF := Lib.hid hF
  have HW := Lib.hid hw
  have HP := Lib.hid hp
  clear hF hw hp
  go_enter Try.func12, Try.ntmps12
  go_wp2_with (first
    | (go_at_call 38
       refine (HF.out _ ((Below.refl _ _).alloc (Nat.le_refl _) _)).mono ?_
       rintro e w1 ⟨BA, bc, WA, wc, OA, oc, rfl, hR1, hb1⟩
       have hk1 : Below (w.heap.size + 1) (w.alloc (.cells #[.int .i64 0, .int .i64 0, .slice none 0 0, .slice none 0 0, .int .i64 0, .int .i64 0, .int .u16 0, .int .u16 0, .int .u16 0, .int .i64 0, .int .i64 0, .bool false, .int .i64 0, .slice none 0 0] 31)) w1 := by
         rwa [show (w.alloc (.cells #[.int .i64 0, .int .i64 0, .slice none 0 0, .slice none 0 0, .int .i64 0, .int .i64 0, .int .u16 0, .int .u16 0, .int .u16 0, .int .i64 0, .int .i64 0, .bool false, .int .i64 0, .slice none 0 0] 31)).heap.size = w.heap.size + 1 by simp] at hb1
       have h0 := box14 _ _ _ _ _ _ _ _ _ _ _ _ _ _ _ w w1 hk1
       have hz1 : w.heap.size < w1.heap.size := h0.lt
       have HB1 : Hid (Below w.heap.size w w1) := ((Below.refl _ _).alloc (Nat.le_refl _) _).trans (hb1.mono (by simp))
       have hk2 : Below w1.heap.size w1 (w1.alloc (.cells #[.int .i64 fn, .int .i64 ex, .slice BA bl bc, .slice WA wl wc, .int .i64 at_, .int .i64 q, .int .u16 v, .int .u16 an, .int .u16 orr, .int .i64 co, .int .i64 le, .bool mo, .int .i64 nx, .slice OA ol oc] 31)) := (Below.refl _ _).alloc (Nat.le_refl _) _
       have hg0 := h0.below hk2 hz1
       have HG0 := Lib.hid hg0
       have HK2 : Hid (Below w.heap.size w (w1.alloc (.cells #[.int .i64 fn, .int .i64 ex, .slice BA bl bc, .slice WA wl wc, .int .i64 at_, .int .i64 q, .int .u16 v, .int .u16 an, .int .u16 orr, .int .i64 co, .int .i64 le, .bool mo, .int .i64 nx, .slice OA ol oc] 31))) := HB1.out.trans (hk2.mono HB1.out.size)
       have H01 := Lib.hid h0
       rw [show (w.alloc (.cells #[.int .i64 0, .int .i64 0, .slice none 0 0, .slice none 0 0, .int .i64 0, .int .i64 0, .int .u16 0, .int .u16 0, .int .u16 0, .int .i64 0, .int .i64 0, .bool false, .int .i64 0, .slice none 0 0] 31)).heap.size = w.heap.size + 1 by simp] at hR1
       have HR1 := Lib.hid hR1
       have HFT := Lib.hid ((hfit _ _ _ _ _ _ _ _ hR1).on hk2)
       obtain ⟨hq0, hq1, hq2, hq3, hq4, hq5, hq6, hq7, hq8, hq9, hq10, hq11, hq12, hq13⟩ := cells14 h0
       have hf0 := h0.frozen 0
       have hf1 := h0.frozen 1
       have hf2 := h0.frozen 2
       have hf3 := h0.frozen 3
       have hf4 := h0.frozen 4
       have hf5 := h0.frozen 5
       have hf6 := h0.frozen 6
       have hf7 := h0.frozen 7
       have hf8 := h0.frozen 8
       have hf9 := h0.frozen 9
       have hf10 := h0.frozen 10
       have hf11 := h0.frozen 11
       have hf12 := h0.frozen 12
       have hf13 := h0.frozen 13
       clear hb1 hk1 h0 hk2 hg0 hR1)
    | (go_at_call 18
       refine (ptr_any fn ex bl wl at_ q v an orr co le mo nx ol BA WA OA bc wc oc _ fo _ HW.out HFT.out HP.out).mono ?_
       rintro e w2 ⟨rfl, hb2⟩
       have hk3 : Below (w1.heap.size + 1) (w1.alloc (.cells #[.int .i64 fn, .int .i64 ex, .slice BA bl bc, .slice WA wl wc, .int .i64 at_, .int .i64 q, .int .u16 v, .int .u16 an, .int .u16 orr, .int .i64 co, .int .i64 le, .bool mo, .int .i64 nx, .slice OA ol oc] 31)) w2 := by
         rwa [show (w1.alloc (.cells #[.int .i64 fn, .int .i64 ex, .slice BA bl bc, .slice WA wl wc, .int .i64 at_, .int .i64 q, .int .u16 v, .int .u16 an, .int .u16 orr, .int .i64 co, .int .i64 le, .bool mo, .int .i64 nx, .slice OA ol oc] 31)).heap.size = w1.heap.size + 1 by simp] at hb2
       have ht := box14 _ _ _ _ _ _ _ _ _ _ _ _ _ _ _ w1 w2 hk3
       have hb12 : Below w1.heap.size w1 w2 := ((Below.refl _ _).alloc (Nat.le_refl _) _).trans (hb2.mono (by simp))
       have h02 := H01.out.below hb12 hz1
       have HB2 : Hid (Below w.heap.size w w2) := HB1.out.trans (hb12.mono HB1.out.size)
       have hz2 : w.heap.size < w2.heap.size := h02.lt
       have hz3 : w1.heap.size < w2.heap.size := ht.lt
       have hz4 : w.heap.size < w1.heap.size := hz1
       have H02 := Lib.hid h02
       obtain ⟨hu0, hu1, hu2, hu3, hu4, hu5, hu6, hu7, hu8, hu9, hu10, hu11, hu12, hu13⟩ := cells14 h02
       obtain ⟨hv0, hv1, hv2, hv3, hv4, hv5, hv6, hv7, hv8, hv9, hv10, hv11, hv12, hv13⟩ := cells14 ht
       have hx0 := h02.frozen 0
       have hx1 := h02.frozen 1
       have hx2 := h02.frozen 2
       have hx3 := h02.frozen 3
       have hx4 := h02.frozen 4
       have hx5 := h02.frozen 5
       have hx6 := h02.frozen 6
       have hx7 := h02.frozen 7
       have hx8 := h02.frozen 8
       have hx9 := h02.frozen 9
       have hx10 := h02.frozen 10
       have hx11 := h02.frozen 11
       have hx12 := h02.frozen 12
       have hx13 := h02.frozen 13
       clear hb2 hk3 ht hb12 h02))
  obtain ⟨w9, hw9⟩ : ∃ w9, (((((((((((((((w2.setCell ⟨w.heap.size, 0, none⟩ (.int .i64 0)).setCell ⟨w.heap.size, 1, none⟩ (.int .i64 0)).setCell ⟨w.heap.size, 2, none⟩ (.slice none 0 0)).setCell ⟨w.heap.size, 3, none⟩ (.slice none 0 0)).setCell ⟨w.heap.size, 4, none⟩ (.int .i64 0)).setCell ⟨w.heap.size, 5, none⟩ (.int .i64 0)).setCell ⟨w.heap.size, 6, none⟩ (.int .u16 0)).setCell ⟨w.heap.size, 7, none⟩ (.int .u16 0)).setCell ⟨w.heap.size, 8, none⟩ (.int .u16 0)).setCell ⟨w.heap.size, 9, none⟩ (.int .i64 0)).setCell ⟨w.heap.size, 10, none⟩ (.int .i64 0)).setCell ⟨w.heap.size, 11, none⟩ (.bool false)).setCell ⟨w.heap.size, 12, none⟩ (.int .i64 0)).setCell ⟨w.heap.size, 13, none⟩ (.slice none 0 0))) = w9 := ⟨_, rfl⟩
  have hwh := all14 H02.out (.int .i64 0) (.int .i64 0) (.slice none 0 0) (.slice none 0 0) (.int .i64 0) (.int .i64 0) (.int .u16 0) (.int .u16 0) (.int .u16 0) (.int .i64 0) (.int .i64 0) (.bool false) (.int .i64 0) (.slice none 0 0) rfl
  have hbb := bel14 HB2.out (.int .i64 0) (.int .i64 0) (.slice none 0 0) (.slice none 0 0) (.int .i64 0) (.int .i64 0) (.int .u16 0) (.int .u16 0) (.int .u16 0) (.int .i64 0) (.int .i64 0) (.bool false) (.int .i64 0) (.slice none 0 0)
  rw [hw9] at hwh hbb
  rw [hw9]
  have hz9 : w.heap.size < w9.heap.size := hwh.lt
  obtain ⟨he0, he1, he2, he3, he4, he5, he6, he7, he8, he9, he10, he11, he12, he13⟩ := cells14 hwh
  exact bodyPost_ret (v := .tuple #[.agg #[.int .i64 0, .int .i64 0, .slice none 0 0, .slice none 0 0, .int .i64 0, .int .i64 0, .int .u16 0, .int .u16 0, .int .u16 0, .int .i64 0, .int .i64 0, .bool false, .int .i64 0, .slice none 0 0], .int .i64 2]) (by simp [results, Try.results12, go_sem, he0, he1, he2, he3, he4, he5, he6, he7, he8, he9, he10, he11, he12, he13]) rfl ⟨rfl, hbb⟩

section
variable (A : Option Addr) (n c : Nat) (zs : List Int) (w : World)

theorem psz_list (f q : Int) (hr : Row .u8 w w.heap.size A n zs) (hx : Bytes8 zs) (hn : n ≤ 1000) (h1 : 2 ≤ n) (h0 : zs.getD 0 0 = f) (hf : f = 1 ∨ f = 2 ∨ f = 3 ∨ f = 4 ∨ f = 23) (hq : zs.getD 1 0 = q) :
    Calls Try.prog 69 #[.slice A n c] w fun e w' => e = .returned (.int .i64 (2 + q)) ∧ w = w' := by
  obtain ⟨b, off, rfl, hb, hcell⟩ := hr.2 (by omega)
  have hc0 : w.cell? ⟨b, off, none⟩ = some (.int .u8 f) := by
    have := hcell 0 (by omega)
    rwa [Nat.add_zero, h0] at this
  have hc1 := hcell 1 (by omega)
  rw [hq] at hc1
  have hbq := hx.at_ 1
  change 0 ≤ zs.getD 1 0 ∧ zs.getD 1 0 ≤ 255 at hbq
  rw [hq] at hbq
  have q0 := hbq.1
  have q1 := hbq.2
  have hn0 : (0 : Int) < (n : Int) := by omega
  have hn1 : (1 : Int) < (n : Int) := by omega
  clear hr hx hcell h0 hq hbq
  rcases hf with rfl | rfl | rfl | rfl | rfl
  all_goals
    go_enter Try.func69, Try.ntmps69
    go_wp2
    go_ret
    exact ⟨ret_int (by omega), rfl⟩
theorem psz_pair (f : Int) (hr : Row .u8 w w.heap.size A n zs) (hn : n ≤ 1000) (h1 : 2 ≤ n) (h0 : zs.getD 0 0 = f) (hf : f = 5 ∨ f = 6 ∨ f = 15 ∨ f = 16) :
    Calls Try.prog 69 #[.slice A n c] w fun e w' => e = .returned (.int .i64 5) ∧ w = w' := by
  obtain ⟨b, off, rfl, hb, hcell⟩ := hr.2 (by omega)
  have hc0 : w.cell? ⟨b, off, none⟩ = some (.int .u8 f) := by
    have := hcell 0 (by omega)
    rwa [Nat.add_zero, h0] at this
  have hn0 : (0 : Int) < (n : Int) := by omega
  clear hr hcell h0
  rcases hf with rfl | rfl | rfl | rfl
  all_goals
    go_enter Try.func69, Try.ntmps69
    go_wp2
    go_ret
    exact ⟨rfl, rfl⟩
theorem psz_22 (hr : Row .u8 w w.heap.size A n zs) (hn : n ≤ 1000) (h1 : 2 ≤ n) (h0 : zs.getD 0 0 = 22) :
    Calls Try.prog 69 #[.slice A n c] w fun e w' => e = .returned (.int .i64 7) ∧ w = w' := by
  obtain ⟨b, off, rfl, hb, hcell⟩ := hr.2 (by omega)
  have hc0 : w.cell? ⟨b, off, none⟩ = some (.int .u8 22) := by
    have := hcell 0 (by omega)
    rwa [Nat.add_zero, h0] at this
  have hn0 : (0 : Int) < (n : Int) := by omega
  clear hr hcell h0
  go_enter Try.func69, Try.ntmps69
  go_wp2
  go_ret
  exact ⟨rfl, rfl⟩
theorem psz_43 (hr : Row .u8 w w.heap.size A n zs) (hn : n ≤ 1000) (h1 : 2 ≤ n) (h0 : zs.getD 0 0 = 43) :
    Calls Try.prog 69 #[.slice A n c] w fun e w' => e = .returned (.int .i64 (n : Int)) ∧ w = w' := by
  obtain ⟨b, off, rfl, hb, hcell⟩ := hr.2 (by omega)
  have hc0 : w.cell? ⟨b, off, none⟩ = some (.int .u8 43) := by
    have := hcell 0 (by omega)
    rwa [Nat.add_zero, h0] at this
  have hn0 : (0 : Int) < (n : Int) := by omega
  clear hr hcell h0
  go_enter Try.func69, Try.ntmps69
  go_wp2
  go_ret
  exact ⟨rfl, rfl⟩
theorem psz_no (f : Int) (hr : Row .u8 w w.heap.size A n zs) (hx : Bytes8 zs) (hn : n ≤ 1000) (h1 : 2 ≤ n) (h0 : zs.getD 0 0 = f) (hf : NoFn f) :
    Calls Try.prog 69 #[.slice A n c] w fun e w' => e = .returned (.int .i64 2) ∧ w = w' := by
  obtain ⟨b, off, rfl, hb, hcell⟩ := hr.2 (by omega)
  have hc0 : w.cell? ⟨b, off, none⟩ = some (.int .u8 f) := by
    have := hcell 0 (by omega)
    rwa [Nat.add_zero, h0] at this
  have hbq := hx.at_ 0
  change 0 ≤ zs.getD 0 0 ∧ zs.getD 0 0 ≤ 255 at hbq
  rw [h0] at hbq
  have q0 := hbq.1
  have q1 := hbq.2
  have hn0 : (0 : Int) < (n : Int) := by omega
  obtain ⟨g1, g2, g3, g4, g5, g6, g15, g16, g22, g23, g43⟩ := hf
  clear hr hcell h0 hbq hx
  go_enter Try.func69, Try.ntmps69
  go_wp2
  go_ret
  exact ⟨rfl, rfl⟩
end

section
variable (A : Option Addr) (n c : Nat) (zs : List Int) (m : Int) (w : World)

set_option maxRecDepth 100000 in
set_option maxHeartbeats 600000 in
theorem pfT_few (hn : n < 2) :
    Calls Try.prog 38 #[.slice A n c, .int .i64 m] w fun e w' => e = .returned (.tuple #[.agg #[.int .i64 0, .int .i64 0, .slice none 0 0, .slice none 0 0, .int .i64 0, .int .i64 0, .int .u16 0, .int .u16 0, .int .u16 0, .int .i64 0, .int .i64 0, .bool false, .int .i64 0, .slice none 0 0], .bool false]) ∧ Below w.heap.size w w' := by
  have hl' : (n : Int) < 2 := by omega
  go_enter Try.func38, Try.ntmps38
  go_wp2
  exact bodyPost_ret (v := .tuple #[.agg #[.int .i64 0, .int .i64 0, .slice none 0 0, .slice none 0 0, .int .i64 0, .int .i64 0, .int .u16 0, .int .u16 0, .int .u16 0, .int .i64 0, .int .i64 0, .bool false, .int .i64 0, .slice none 0 0], .bool false]) (by simp [results, Try.results38, go_sem]) rfl ⟨rfl, (Below.refl _ _).alloc (Nat.le_refl _) _⟩

set_option maxRecDepth 100000 in
set_option maxHeartbeats 600000 in
theorem pfT_exc (f x : Int) (hr : Row .u8 w w.heap.size A n zs) (hx : Bytes8 zs) (hn : n = 2) (h0 : zs.getD 0 0 = f) (hf : 128 ≤ f) (h1 : zs.getD 1 0 = x) :
    Calls Try.prog 38 #[.slice A n c, .int .i64 m] w fun e w' => e = .returned (.tuple #[.agg #[.int .i64 (f - 128), .int .i64 x, .slice none 0 0, .slice none 0 0, .int .i64 0, .int .i64 0, .int .u16 0, .int .u16 0, .int .u16 0, .int .i64 0, .int .i64 0, .bool false, .int .i64 0, .slice none 0 0], .bool (decide (x ≠ 0))]) ∧ Below w.heap.size w w' := by
  subst hn
  obtain ⟨b, off, rfl, hb, hcell⟩ := hr.2 (by omega)
  have hc0' : w.cell? ⟨b, off, none⟩ = some (.int .u8 f) := by
    have := hcell 0 (by omega)
    rwa [Nat.add_zero, h0] at this
  have hc1' := hcell 1 (by omega)
  rw [h1] at hc1'
  have hc0 : (w.alloc (.cells #[.int .i64 0, .int .i64 0, .slice none 0 0, .slice none 0 0, .int .i64 0, .int .i64 0, .int .u16 0, .int .u16 0, .int .u16 0, .int .i64 0, .int .i64 0, .bool false, .int .i64 0, .slice none 0 0] 31)).cell? ⟨b, off, none⟩ = some (.int .u8 f) := by
    rw [World.cell?_alloc_lt w _ ⟨b, off, none⟩ hb]
    exact hc0'
  have hbf := hx.at_ 0
  change 0 ≤ zs.getD 0 0 ∧ zs.getD 0 0 ≤ 255 at hbf
  rw [h0] at hbf
  have f1 := hbf.2
  have hbx := hx.at_ 1
  change 0 ≤ zs.getD 1 0 ∧ zs.getD 1 0 ≤ 255 at hbx
  rw [h1] at hbx
  have x0 := hbx.1
  have x1 := hbx.2
  have ea : bits .andNot .u8 f 128 = f - 128 := by rw [andNot128 f (by omega) f1]; omega
  have eb : bits .and .u8 f 128 = 128 := by rw [and128 f (by omega) f1]; omega
  have hkw : Below w.heap.size w (w.alloc (.cells #[.int .i64 0, .int .i64 0, .slice none 0 0, .slice none 0 0, .int .i64 0, .int .i64 0, .int .u16 0, .int .u16 0, .int .u16 0, .int .i64 0, .int .i64 0, .bool false, .int .i64 0, .slice none 0 0] 31)) := (Below.refl _ _).alloc (Nat.le_refl _) _
  have HR := Lib.hid ((hr.below hkw).more hkw.size)
  have HX := Lib.hid hx
  have H0 := Lib.hid h0
  have HNo : Hid (NoFn f) := by constructor <;> omega
  clear hr hx hcell h0 h1 hbf hbx hkw
  go_enter Try.func38, Try.ntmps38
  go_wp2_with (go_at_call 69; refine (psz_no _ 2 c zs _ f HR.out HX.out (by omega) (by omega) H0.out HNo.out).mono ?_; rintro e w' ⟨rfl, rfl⟩)
  go_region_with fail
  all_goals
    go_wp2
    refine bodyPost_ret (v := .tuple #[.agg #[.int .i64 (f - 128), .int .i64 x, .slice none 0 0, .slice none 0 0, .int .i64 0, .int .i64 0, .int .u16 0, .int .u16 0, .int .u16 0, .int .i64 0, .int .i64 0, .bool false, .int .i64 0, .slice none 0 0], .bool (decide (x ≠ 0))]) (by simp [results, Try.results38, go_sem]; rfl) rfl ⟨rfl, ?_⟩
    exact below_drewN (((Below.refl _ _).alloc (Nat.le_refl _) _).alloc (by simp) _) 1
end

set_option maxRecDepth 100000 in
set_option maxHeartbeats 1000000 in
theorem pfT_yes_1 (A : Option Addr) (t c : Nat) (zs : List Int) (m : Int) (w : World) (hr : Row .u8 w w.heap.size A (2 + t) zs) (hx : Bytes8 zs) (hn : 2 + t ≤ 1000) (h0 : zs.getD 0 0 = 1) (hc : 2 + t ≤ c) (hcap : 2 < c) (hu : zs.getD 1 0 = (t : Int)) (k : Nat) (hk : m = (k : Int)) (hkn : t = nb k) :
    Calls Try.prog 38 #[.slice A (2 + t) c, .int .i64 m] w fun e w' => ∃ G g, e = .returned (.tuple #[.agg #[.int .i64 1, .int .i64 0, .slice G k g, .slice none 0 0, .int .i64 0, .int .i64 0, .int .u16 0, .int .u16 0, .int .u16 0, .int .i64 0, .int .i64 0, .bool false, .int .i64 0, .slice none 0 0], .bool true]) ∧ w'.ownsRow w.heap.size 4 1 (.slice G k g) k ((unb (zs.drop 2) k).map Value.bool) ∧ Below w.heap.size w w' := by
  obtain ⟨lou, hiu⟩ := hx.at_ 1
  change 0 ≤ zs.getD 1 0 at lou
  change zs.getD 1 0 ≤ 255 at hiu
  rw [hu] at lou hiu
  obtain ⟨p, hp⟩ : ∃ p, gotW zs (2 + t) 1 = p := ⟨_, rfl⟩
  obtain ⟨q, hq⟩ : ∃ q, gotW zs (2 + t) 3 = q := ⟨_, rfl⟩
  obtain ⟨lop, hip⟩ := gotW_bounds hx (2 + t) 1
  rw [hp] at lop hip
  obtain ⟨loq, hiq⟩ := gotW_bounds hx (2 + t) 3
  rw [hq] at loq hiq
  obtain ⟨b, off, rfl, hb, hcell⟩ := hr.2 (by omega)
  have hc0 : (w.alloc (.cells #[.int .i64 0, .int .i64 0, .slice none 0 0, .slice none 0 0, .int .i64 0, .int .i64 0, .int .u16 0, .int .u16 0, .int .u16 0, .int .i64 0, .int .i64 0, .bool false, .int .i64 0, .slice none 0 0] 31)).cell? ⟨b, off, none⟩ = some (.int .u8 1) := by
    rw [World.cell?_alloc_lt w _ ⟨b, off, none⟩ hb]
    have := hcell 0 (by omega)
    rw [Nat.add_zero, h0] at this
    exact this
  have hc0b : ((w.alloc (.cells #[.int .i64 0, .int .i64 0, .slice none 0 0, .slice none 0 0, .int .i64 0, .int .i64 0, .int .u16 0, .int .u16 0, .int .u16 0, .int .i64 0, .int .i64 0, .bool false, .int .i64 0, .slice none 0 0] 31)).alloc (.cells #[.int .i64 1, .int .i64 0, .slice none 0 0, .slice none 0 0, .int .i64 0, .int .i64 0, .int .u16 0, .int .u16 0, .int .u16 0, .int .i64 0, .int .i64 0, .bool false, .int .i64 0, .slice none 0 0] 31)).cell? ⟨b, off, none⟩ = some (.int .u8 1) := by
    rw [World.cell?_alloc_lt _ _ ⟨b, off, none⟩ (by simp; omega)]
    exact hc0
  have hc1b : w.cell? ⟨b, off + 1, none⟩ = some (.int .u8 (t : Int)) := by
    have := hcell 1 (by omega)
    rw [hu] at this
    exact this
  have hn0 : (0 : Int) < (((2 + t) : Nat) : Int) := by omega
  have hn1 : (1 : Int) < (((2 + t) : Nat) : Int) := by omega
  have ea : bits .andNot .u8 1 128 = 1 := by rw [andNot128 _ (by omega) (by omega)]; rfl
  have eb : bits .and .u8 1 128 = 0 := by rw [and128 _ (by omega) (by omega)]; rfl
  have hkw1 : Below w.heap.size w (w.alloc (.cells #[.int .i64 0, .int .i64 0, .slice none 0 0, .slice none 0 0, .int .i64 0, .int .i64 0, .int .u16 0, .int .u16 0, .int .u16 0, .int .i64 0, .int .i64 0, .bool false, .int .i64 0, .slice none 0 0] 31)) := (Below.refl _ _).alloc (Nat.le_refl _) _
  have hkw : Below w.heap.size w ((w.alloc (.cells #[.int .i64 0, .int .i64 0, .slice none 0 0, .slice none 0 0, .int .i64 0, .int .i64 0, .int .u16 0, .int .u16 0, .int .u16 0, .int .i64 0, .int .i64 0, .bool false, .int .i64 0, .slice none 0 0] 31)).alloc (.cells #[.int .i64 1, .int .i64 0, .slice none 0 0, .slice none 0 0, .int .i64 0, .int .i64 0, .int .u16 0, .int .u16 0, .int .u16 0, .int .i64 0, .int .i64 0, .bool false, .int .i64 0, .slice none 0 0] 31)) := ((Below.refl _ _).alloc (Nat.le_refl _) _).alloc (by simp) _
  have HR1 := Lib.hid ((hr.below hkw1).more hkw1.size)
  have HR := Lib.hid ((hr.below hkw).more hkw.size)
  have HX := Lib.hid hx
  have HKW := Lib.hid hkw
  have HG4 : Hid (WholeV ((w.alloc (.cells #[.int .i64 0, .int .i64 0, .slice none 0 0, .slice none 0 0, .int .i64 0, .int .i64 0, .int .u16 0, .int .u16 0, .int .u16 0, .int .i64 0, .int .i64 0, .bool false, .int .i64 0, .slice none 0 0] 31)).alloc (.cells #[.int .i64 1, .int .i64 0, .slice none 0 0, .slice none 0 0, .int .i64 0, .int .i64 0, .int .u16 0, .int .u16 0, .int .u16 0, .int .i64 0, .int .i64 0, .bool false, .int .i64 0, .slice none 0 0] 31)) (w.heap.size + 1) 31 [.int .i64 1, .int .i64 0, .slice none 0 0, .slice none 0 0, .int .i64 0, .int .i64 0, .int .u16 0, .int .u16 0, .int .u16 0, .int .i64 0, .int .i64 0, .bool false, .int .i64 0, .slice none 0 0]) := by
    have h := heap_alloc_new (w.alloc (.cells #[.int .i64 0, .int .i64 0, .slice none 0 0, .slice none 0 0, .int .i64 0, .int .i64 0, .int .u16 0, .int .u16 0, .int .u16 0, .int .i64 0, .int .i64 0, .bool false, .int .i64 0, .slice none 0 0] 31)) (.cells #[.int .i64 1, .int .i64 0, .slice none 0 0, .slice none 0 0, .int .i64 0, .int .i64 0, .int .u16 0, .int .u16 0, .int .u16 0, .int .i64 0, .int .i64 0, .bool false, .int .i64 0, .slice none 0 0] 31)
    rwa [show (w.alloc (.cells #[.int .i64 0, .int .i64 0, .slice none 0 0, .slice none 0 0, .int .i64 0, .int .i64 0, .int .u16 0, .int .u16 0, .int .u16 0, .int .i64 0, .int .i64 0, .bool false, .int .i64 0, .slice none 0 0] 31)).heap.size = w.heap.size + 1 by simp] at h
  have HG2 : Hid (WholeV ((w.alloc (.cells #[.int .i64 0, .int .i64 0, .slice none 0 0, .slice none 0 0, .int .i64 0, .int .i64 0, .int .u16 0, .int .u16 0, .int .u16 0, .int .i64 0, .int .i64 0, .bool false, .int .i64 0, .slice none 0 0] 31)).alloc (.cells #[.int .i64 1, .int .i64 0, .slice none 0 0, .slice none 0 0, .int .i64 0, .int .i64 0, .int .u16 0, .int .u16 0, .int .u16 0, .int .i64 0, .int .i64 0, .bool false, .int .i64 0, .slice none 0 0] 31)) w.heap.size 31 [.int .i64 0, .int .i64 0, .slice none 0 0, .slice none 0 0, .int .i64 0, .int .i64 0, .int .u16 0, .int .u16 0, .int .u16 0, .int .i64 0, .int .i64 0, .bool false, .int .i64 0, .slice none 0 0]) := by
    have h : WholeV (w.alloc (.cells #[.int .i64 0, .int .i64 0, .slice none 0 0, .slice none 0 0, .int .i64 0, .int .i64 0, .int .u16 0, .int .u16 0, .int .u16 0, .int .i64 0, .int .i64 0, .bool false, .int .i64 0, .slice none 0 0] 31)) w.heap.size 31 [.int .i64 0, .int .i64 0, .slice none 0 0, .slice none 0 0, .int .i64 0, .int .i64 0, .int .u16 0, .int .u16 0, .int .u16 0, .int .i64 0, .int .i64 0, .bool false, .int .i64 0, .slice none 0 0] := heap_alloc_new w _
    exact h.below ((Below.refl _ _).alloc (Nat.le_refl _) _) (by simp)
  have HT : Hid (∀ X, Below w.heap.size w X → Row .u8 X X.heap.size (some ⟨b, off + 2, none⟩) t (zs.drop 2)) := fun X hX => ((hr.below hX).more hX.size).tail rfl
  clear hr hx hcell hkw hkw1
  have H0 := Lib.hid h0
  have HU := Lib.hid hu
  clear h0 hu
  have Hp := Lib.hid hp
  have Hq := Lib.hid hq
  clear hp hq
  have hkb : k ≤ 2100 := by unfold nb at hkn; omega
  have HK := Lib.hid hk
  have HKN := Lib.hid hkn
  clear hk hkn
  go_enter Try.func38, Try.ntmps38
  go_wp2_with (first
    | (go_at_call 69; refine (psz_list _ (2 + t) c zs _ 1 (t : Int) HR1.out HX.out (by omega) (by omega) H0.out (by omega) HU.out).mono ?_; rintro e w' ⟨rfl, rfl⟩; rw [show (2 : Int) + (t : Int) = (((2 + t) : Nat) : Int) by omega])
    | (go_at_call 70; (with_reducible refine (pnumber_any (some ⟨b, off, none⟩) (2 + t) c zs 1 p _ Hp.out (HR.out.drewN _) HX.out (by omega)).mono ?_); rintro e w' ⟨rfl, d1, rfl⟩)
    | (go_at_call 70; (with_reducible refine (pnumber_any (some ⟨b, off, none⟩) (2 + t) c zs 1 p _ Hp.out HR.out HX.out (by omega)).mono ?_); rintro e w' ⟨rfl, d1, rfl⟩)
    | (go_at_call 70; (with_reducible refine (pnumber_any (some ⟨b, off, none⟩) (2 + t) c zs 3 q _ Hq.out (HR.out.drewN _) HX.out (by omega)).mono ?_); rintro e w' ⟨rfl, d3, rfl⟩)
    | (go_at_call 70; (with_reducible refine (pnumber_any (some ⟨b, off, none⟩) (2 + t) c zs 3 q _ Hq.out HR.out HX.out (by omega)).mono ?_); rintro e w' ⟨rfl, d3, rfl⟩)
    | (go_at_call 71
       (with_reducible refine (punpack_own _ t _ k m (zs.drop 2) _ HKN.out HK.out (HT.out _ (below_drewN HKW.out _)) (HX.out.drop 2) (by omega)).mono ?_)
       rintro e w5 ⟨G, g, rfl, ho5, hb5⟩
       have hb5' := below_from hb5
       have h1 := HG4.out.below hb5' (by simp)
       have h0 := HG2.out.below hb5' (by simp; omega)
       have HB5 : Hid (Below w.heap.size w w5) := HKW.out.trans (hb5'.mono HKW.out.size)
       have HO5 : Hid (w5.ownsRow (w.heap.size + 2) 4 1 (.slice G k g) k ((unb (zs.drop 2) k).map Value.bool)) := own_mono ho5 (by simp)
       have hz5 : w.heap.size + 1 < w5.heap.size := h1.lt
       obtain ⟨hs0, hs1, hs2, hs3, hs4, hs5, hs6, hs7, hs8, hs9, hs10, hs11, hs12, hs13⟩ := cells14 h1
       obtain ⟨hp0, hp1, hp2, hp3, hp4, hp5, hp6, hp7, hp8, hp9, hp10, hp11, hp12, hp13⟩ := cells14 h0
       have hf0 := h1.frozen 0
       have hf1 := h1.frozen 1
       have hf2 := h1.frozen 2
       have hf3 := h1.frozen 3
       have hf4 := h1.frozen 4
       have hf5 := h1.frozen 5
       have hf6 := h1.frozen 6
       have hf7 := h1.frozen 7
       have hf8 := h1.frozen 8
       have hf9 := h1.frozen 9
       have hf10 := h1.frozen 10
       have hf11 := h1.frozen 11
       have hf12 := h1.frozen 12
       have hf13 := h1.frozen 13
       have hg0 := h0.frozen 0
       have hg1 := h0.frozen 1
       have hg2 := h0.frozen 2
       have hg3 := h0.frozen 3
       have hg4 := h0.frozen 4
       have hg5 := h0.frozen 5
       have hg6 := h0.frozen 6
       have hg7 := h0.frozen 7
       have hg8 := h0.frozen 8
       have hg9 := h0.frozen 9
       have hg10 := h0.frozen 10
       have hg11 := h0.frozen 11
       have hg12 := h0.frozen 12
       have hg13 := h0.frozen 13
       have HH1 := Lib.hid h1
       have HH0 := Lib.hid h0
       clear h1 h0 hb5 hb5' ho5))
  obtain ⟨X, hX⟩ : ∃ X, (w5.setCell ⟨w.heap.size + 1, 2, none⟩ (.slice G k g)) = X := ⟨_, rfl⟩
  have hx0 := HH0.out.below ((Below.refl (w.heap.size + 1) _).setCell (p := ⟨w.heap.size + 1, 2, none⟩) (Nat.le_refl _) (.slice G k g)) (Nat.lt_succ_self _)
  have hxb := HB5.out.setCell (p := ⟨w.heap.size + 1, 2, none⟩) (Nat.le_succ _) (.slice G k g)
  have hox := own_far HO5.out ⟨w.heap.size + 1, 2, none⟩ (show w.heap.size + 1 < w.heap.size + 2 by omega) (.slice G k g)
  rw [hX] at hx0 hxb hox
  rw [hX]
  obtain ⟨w9, hw9⟩ : ∃ w9, (((((((((((((((X.setCell ⟨w.heap.size, 0, none⟩ (.int .i64 1)).setCell ⟨w.heap.size, 1, none⟩ (.int .i64 0)).setCell ⟨w.heap.size, 2, none⟩ (.slice G k g)).setCell ⟨w.heap.size, 3, none⟩ (.slice none 0 0)).setCell ⟨w.heap.size, 4, none⟩ (.int .i64 0)).setCell ⟨w.heap.size, 5, none⟩ (.int .i64 0)).setCell ⟨w.heap.size, 6, none⟩ (.int .u16 0)).setCell ⟨w.heap.size, 7, none⟩ (.int .u16 0)).setCell ⟨w.heap.size, 8, none⟩ (.int .u16 0)).setCell ⟨w.heap.size, 9, none⟩ (.int .i64 0)).setCell ⟨w.heap.size, 10, none⟩ (.int .i64 0)).setCell ⟨w.heap.size, 11, none⟩ (.bool false)).setCell ⟨w.heap.size, 12, none⟩ (.int .i64 0)).setCell ⟨w.heap.size, 13, none⟩ (.slice none 0 0))) = w9 := ⟨_, rfl⟩
  have hwh := all14 hx0 (.int .i64 1) (.int .i64 0) (.slice G k g) (.slice none 0 0) (.int .i64 0) (.int .i64 0) (.int .u16 0) (.int .u16 0) (.int .u16 0) (.int .i64 0) (.int .i64 0) (.bool false) (.int .i64 0) (.slice none 0 0) rfl
  have hbb := bel14 hxb (.int .i64 1) (.int .i64 0) (.slice G k g) (.slice none 0 0) (.int .i64 0) (.int .i64 0) (.int .u16 0) (.int .u16 0) (.int .u16 0) (.int .i64 0) (.int .i64 0) (.bool false) (.int .i64 0) (.slice none 0 0)
  have ho9 : w9.ownsRow (w.heap.size + 2) 4 1 (.slice G k g) k ((unb (zs.drop 2) k).map Value.bool) := by rw [← hw9]; exact (own_far (own_far (own_far (own_far (own_far (own_far (own_far (own_far (own_far (own_far (own_far (own_far (own_far (own_far hox ⟨w.heap.size, 0, none⟩ (show w.heap.size < w.heap.size + 2 by omega) _) ⟨w.heap.size, 1, none⟩ (show w.heap.size < w.heap.size + 2 by omega) _) ⟨w.heap.size, 2, none⟩ (show w.heap.size < w.heap.size + 2 by omega) _) ⟨w.heap.size, 3, none⟩ (show w.heap.size < w.heap.size + 2 by omega) _) ⟨w.heap.size, 4, none⟩ (show w.heap.size < w.heap.size + 2 by omega) _) ⟨w.heap.size, 5, none⟩ (show w.heap.size < w.heap.size + 2 by omega) _) ⟨w.heap.size, 6, none⟩ (show w.heap.size < w.heap.size + 2 by omega) _) ⟨w.heap.size, 7, none⟩ (show w.heap.size < w.heap.size + 2 by omega) _) ⟨w.heap.size, 8, none⟩ (show w.heap.size < w.heap.size + 2 by omega) _) ⟨w.heap.size, 9, none⟩ (show w.heap.size < w.heap.size + 2 by omega) _) ⟨w.heap.size, 10, none⟩ (show w.heap.size < w.heap.size + 2 by omega) _) ⟨w.heap.size, 11, none⟩ (show w.heap.size < w.heap.size + 2 by omega) _) ⟨w.heap.size, 12, none⟩ (show w.heap.size < w.heap.size + 2 by omega) _) ⟨w.heap.size, 13, none⟩ (show w.heap.size < w.heap.size + 2 by omega) _)
  rw [hw9] at hwh hbb
  rw [hw9]
  obtain ⟨he0, he1, he2, he3, he4, he5, he6, he7, he8, he9, he10, he11, he12, he13⟩ := cells14 hwh
  exact bodyPost_ret (v := .tuple #[.agg #[.int .i64 1, .int .i64 0, .slice G k g, .slice none 0 0, .int .i64 0, .int .i64 0, .int .u16 0, .int .u16 0, .int .u16 0, .int .i64 0, .int .i64 0, .bool false, .int .i64 0, .slice none 0 0], .bool true]) (by simp [results, Try.results38, go_sem, he0, he1, he2, he3, he4, he5, he6, he7, he8, he9, he10, he11, he12, he13]) rfl ⟨_, _, rfl, own_mono ho9 (by omega), hbb⟩

theorem pbT_no (fn ex : Int) (bl wl : Nat) (at_ q v an orr co le : Int) (mo : Bool) (nx : Int) (ol : Nat) (BA WA OA : Option Addr) (bc wc oc : Nat) (w : World) (fo : Bool) (hw : WideT at_ q v an orr co le nx) (hf : Fits w OA ol oc fo) (h : ¬ tellP fn ex bl wl at_ q v an orr co le mo.toNat nx ol fo.toNat) :
    Calls Try.prog 17 #[.agg #[.int .i64 fn, .int .i64 ex, .slice BA bl bc, .slice WA wl wc, .int .i64 at_, .int .i64 q, .int .u16 v, .int .u16 an, .int .u16 orr, .int .i64 co, .int .i64 le, .bool mo, .int .i64 nx, .slice OA ol oc]] w fun e w' => e = .returned (.tuple #[.slice none 0 0, .int .i64 1]) ∧ Below w.heap.size w w' := by
  have HW := Lib.hid hw
  have HF := Lib.hid hf
  have HP := Lib.hid (decide_eq_false h)
  clear hw hf h
  go_enter Try.func17, Try.ntmps17
  go_wp2_with (go_at_call 18; refine (ptr_any fn ex bl wl at_ q v an orr co le mo nx ol BA WA OA bc wc oc _ fo false HW.out (HF.out.on ((Below.refl _ _).alloc (Nat.le_refl _) _)) HP.out).mono ?_; rintro e w1 ⟨rfl, hb1⟩; have HB1 : Hid (Below w.heap.size w w1) := ((Below.refl _ _).alloc (Nat.le_refl _) _).trans (hb1.mono (by simp)); clear hb1)
  go_ret2
  exact ⟨rfl, HB1.out⟩

theorem pbT_exc (fn ex : Int) (bl wl : Nat) (at_ q v an orr co le : Int) (mo : Bool) (nx : Int) (ol : Nat) (BA WA OA : Option Addr) (bc wc oc : Nat) (w : World) (fo : Bool) (hw : WideT at_ q v an orr co le nx) (hx : ex ≠ 0) (h : tellP fn ex bl wl at_ q v an orr co le mo.toNat nx ol fo.toNat) :
    Calls Try.prog 17 #[.agg #[.int .i64 fn, .int .i64 ex, .slice BA bl bc, .slice WA wl wc, .int .i64 at_, .int .i64 q, .int .u16 v, .int .u16 an, .int .u16 orr, .int .i64 co, .int .i64 le, .bool mo, .int .i64 nx, .slice OA ol oc]] w fun e w' => ∃ g, e = .returned (.tuple #[.slice (some ⟨g, 0, none⟩) 2 2, .int .i64 0]) ∧ Whole .u8 w' g 5 [fn % 128 + 128, ex] ∧ w.heap.size ≤ g ∧ Below w.heap.size w w' := by
  have hq := (tell_exc hx).1 h
  have f0 := hq.2.1.1
  have f1 := hq.2.1.2
  have x0 : 0 ≤ ex := by omega
  have x1 : ex ≤ 255 := by omega
  have eo := or128 fn f0 f1
  have b0 : 0 ≤ fn % 128 + 128 := by omega
  have b1 : fn % 128 + 128 ≤ 255 := by omega
  have ef : IntKind.u8.wrap fn = fn := IntWalk.u8_in _ (by omega)
  have ee : IntKind.u8.wrap ex = ex := IntWalk.u8_in _ (by omega)
  have HW := Lib.hid hw
  have HP := Lib.hid (decide_eq_true h)
  clear hw h hq
  go_enter Try.func17, Try.ntmps17
  go_wp2_with (go_at_call 18
               refine (ptr_exc fn ex bl wl at_ q v an orr co le mo nx ol BA WA OA bc wc oc _ fo true HW.out hx HP.out).mono ?_
               rintro e w1 ⟨rfl, hb1⟩
               have HB1 : Hid (Below w.heap.size w w1) := ((Below.refl _ _).alloc (Nat.le_refl _) _).trans (hb1.mono (by simp))
               have hk1 : Below (w.heap.size + 1) (w.alloc (.cells #[.int .i64 fn, .int .i64 ex, .slice BA bl bc, .slice WA wl wc, .int .i64 at_, .int .i64 q, .int .u16 v, .int .u16 an, .int .u16 orr, .int .i64 co, .int .i64 le, .bool mo, .int .i64 nx, .slice OA ol oc] 31)) w1 := by
                 rwa [show (w.alloc (.cells #[.int .i64 fn, .int .i64 ex, .slice BA bl bc, .slice WA wl wc, .int .i64 at_, .int .i64 q, .int .u16 v, .int .u16 an, .int .u16 orr, .int .i64 co, .int .i64 le, .bool mo, .int .i64 nx, .slice OA ol oc] 31)).heap.size = w.heap.size + 1 by simp] at hb1
               obtain ⟨hc0, hc1, hc2, hc3, hc4, hc5, hc6, hc7, hc8, hc9, hc10, hc11, hc12, hc13⟩ := cells14 (box14 _ _ _ _ _ _ _ _ _ _ _ _ _ _ _ w w1 hk1)
               clear hb1 hk1)
  go_ret2
  exact ⟨w1.heap.size, rfl, heap_alloc_new w1 _, HB1.out.size, HB1.out.alloc HB1.out.size _⟩

theorem pfail_any (fn ex : Int) (w : World) :
    Calls Try.prog 37 #[.int .i64 fn, .int .i64 ex] w fun e w' => e = .returned (.agg #[.int .i64 fn, .int .i64 ex, .slice none 0 0, .slice none 0 0, .int .i64 0, .int .i64 0, .int .u16 0, .int .u16 0, .int .u16 0, .int .i64 0, .int .i64 0, .bool false, .int .i64 0, .slice none 0 0]) ∧ Below w.heap.size w w' := by
  go_enter Try.func37, Try.ntmps37
  go_wp2
  exact bodyPost_ret (v := .agg #[.int .i64 fn, .int .i64 ex, .slice none 0 0, .slice none 0 0, .int .i64 0, .int .i64 0, .int .u16 0, .int .u16 0, .int .u16 0, .int .i64 0, .int .i64 0, .bool false, .int .i64 0, .slice none 0 0]) (by simp [results, Try.results37, go_sem]) rfl ⟨rfl, (Below.refl _ _).alloc (Nat.le_refl _) _⟩
theorem wide0 : WideT 0 0 0 0 0 0 0 0 := by constructor <;> omega
/-- Parse of an exception's two bytes. -/
theorem pparse_exc (A : Option Addr) (c : Nat) (m : Int) (w : World) (f x : Int) (zs : List Int) (hr : Row .u8 w w.heap.size A 2 zs) (hx : Bytes8 zs) (h0 : zs.getD 0 0 = f) (hf : 128 ≤ f) (h1 : zs.getD 1 0 = x) (hz : x = 1 ∨ x = 2 ∨ x = 3 ∨ x = 4 ∨ x = 6) :
    Calls Try.prog 12 #[.slice A 2 c, .int .i64 m] w fun e w' => ∃ BA bc WA wc OA oc, e = .returned (.tuple #[.agg #[.int .i64 (f - 128), .int .i64 x, .slice BA 0 bc, .slice WA 0 wc, .int .i64 0, .int .i64 0, .int .u16 0, .int .u16 0, .int .u16 0, .int .i64 0, .int .i64 0, .bool false, .int .i64 0, .slice OA 0 oc], .int .i64 0]) ∧ Below w.heap.size w w' := by
  have hbf := hx.at_ 0
  change 0 ≤ zs.getD 0 0 ∧ zs.getD 0 0 ≤ 255 at hbf
  rw [h0] at hbf
  refine (pp_ok A 2 c m w (f - 128) x 0 0 0 0 0 0 0 0 0 false 0 0 true (fun _ _ _ _ _ _ _ _ => True) ?_ (fun _ _ _ _ _ _ _ _ _ _ _ => trivial) (fun _ _ _ _ _ _ _ _ _ _ _ _ => trivial) (fun _ X _ _ _ _ OA oc _ => fits_nil X OA oc) wide0 (decide_eq_true ((tell_exc (by omega)).2 ⟨hz, by omega, by decide⟩))).mono fun e w' ⟨BA, bc, WA, wc, OA, oc, h1, _, h3⟩ => ⟨BA, bc, WA, wc, OA, oc, h1, h3⟩
  intro W hW
  refine (pfT_exc A 2 c zs m W f x ((hr.below hW).more hW.size) hx rfl h0 hf h1).mono fun e w' ⟨he, hb⟩ => ⟨none, 0, none, 0, none, 0, ?_, trivial, hb⟩
  rw [he, decide_eq_true (show x ≠ 0 by omega)]

theorem bits5 : unb ([1, 1, 5].drop 2) 3 = [true, false, true] := by decide +kernel
/-- The chapter's example of bits. -/
theorem parse_bits (A : Option Addr) (w : World) (hr : Row .u8 w w.heap.size A 3 [1, 1, 5]) :
    Calls Try.prog 12 #[.slice A 3 3, .int .i64 3] w fun e w' => ∃ BA bc WA wc OA oc, e = .returned (.tuple #[.agg #[.int .i64 1, .int .i64 0, .slice BA 3 bc, .slice WA 0 wc, .int .i64 0, .int .i64 0, .int .u16 0, .int .u16 0, .int .u16 0, .int .i64 0, .int .i64 0, .bool false, .int .i64 0, .slice OA 0 oc], .int .i64 0]) ∧ w'.ownsRow (w.heap.size + 1) 4 1 (.slice BA 3 bc) 3 ([true, false, true].map Value.bool) ∧ Below w.heap.size w w' := by
  refine (pp_ok A 3 3 3 w 1 0 3 0 0 0 0 0 0 0 0 false 0 0 true (fun base X BA bc _ _ _ _ => X.ownsRow base 4 1 (.slice BA 3 bc) 3 ([true, false, true].map Value.bool)) ?_ (fun _ _ _ _ _ _ _ _ _ h hb => own_keep h hb) (fun _ _ p u _ _ _ _ _ _ h hp => own_far h p hp u) (fun _ X _ _ _ _ OA oc _ => fits_nil X OA oc) wide0 (by decide))
  intro W hW
  refine (pfT_yes_1 A 1 3 [1, 1, 5] 3 W ((hr.below hW).more hW.size) (by intro x hx; simp at hx; omega) (by omega) rfl (by omega) (by omega) rfl 3 rfl rfl).mono ?_
  rintro e w' ⟨G, g, rfl, ho, hb⟩
  rw [bits5] at ho
  exact ⟨G, g, none, 0, none, 0, rfl, ho, hb⟩

theorem exc_str : strOfNums [131, 2] = ⟨#[131, 2]⟩ := by decide +kernel

set_option maxRecDepth 100000 in
set_option maxHeartbeats 1000000 in
theorem awake_any (w : World) : Calls Try.prog 9 #[] w fun e w' => e = .returned (.bool true) ∧ Below w.heap.size w w' := by
  go_enter Try.func9, Try.ntmps9
  go_wp2_with (first
    | (go_at_call 37; refine (pfail_any 3 2 _).mono ?_; rintro e w0 ⟨rfl, hb0⟩; have HB0 := Lib.hid hb0; clear hb0)
    | (go_at_call 17
       refine (pbT_exc 3 2 0 0 0 0 0 0 0 0 0 false 0 0 none none none 0 0 0 _ true wide0 (by omega) (by decide)).mono ?_
       rintro e w1 ⟨g1, rfl, hg1, hgs, hb1⟩
       have HB1 := Lib.hid hb1
       have HG1 := Lib.hid hg1
       clear hb1 hg1))
  refine (parse_bits _ _ (by
    have h := heap_alloc_new w1 (.cells #[.int .u8 1, .int .u8 1, .int .u8 5] 5)
    have h2 : Whole .u8 (w1.alloc (.cells #[.int .u8 1, .int .u8 1, .int .u8 5] 5)) w1.heap.size 5 [1, 1, 5] := h
    exact h2.row)).mono ?_
  rintro e w2 ⟨BA, bc, WA, wc, OA, oc, rfl, ho, hb2⟩
  obtain ⟨g2, c2, hv2, hg2, hr2⟩ := row_of_own ho (by omega)
  injection hv2 with hv3 hv4 hv5
  subst hv3 hv5
  obtain ⟨ad, had, hlt, hcells⟩ := hr2.src (by omega)
  injection had with had
  subst had
  have hk0 := hcells 0 (.bool true) rfl
  have hk1 := hcells 1 (.bool false) rfl
  have hk2 := hcells 2 (.bool true) rfl
  rw [add_none] at hk0 hk1 hk2
  have hlt2 : g2 < w2.heap.size := hlt
  have hb3 : Below w1.heap.size w1 (w2.alloc (.cells #[.int .i64 1, .int .i64 0, .slice (some ⟨g2, 0, none⟩) 3 bc, .slice WA 0 wc, .int .i64 0, .int .i64 0, .int .u16 0, .int .u16 0, .int .u16 0, .int .i64 0, .int .i64 0, .bool false, .int .i64 0, .slice OA 0 oc] 31)) := (((Below.refl _ _).alloc (Nat.le_refl _) _).trans (hb2.mono (by simp))).alloc (by have := hb2.size; simp at this; omega) _
  have hc := conv_row _ 2 2 [131, 2] _ ((HG1.out.row.below hb3).more hb3.size)
  rw [exc_str] at hc
  have HB3 := Lib.hid (HB0.out.trans ((HB1.out.trans (hb3.mono HB1.out.size)).mono HB0.out.size))
  clear hb3 hb2 ho hr2 hg2 hlt hcells
  go_wp2_with fail
  go_ret
  exact ⟨rfl, HB3.out⟩

end Go.Proofs.Ytokljdkbheogoaa

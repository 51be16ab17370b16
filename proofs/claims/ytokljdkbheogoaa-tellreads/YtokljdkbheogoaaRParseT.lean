/- The document's TellParse, out of any contract of heard. No statement is proved here. -/
import Derived.Test.YtokljdkbheogoaaPBox14
namespace Go.Proofs.Ytokljdkbheogoaa
open Go.ChangeShapes Go.WideShapes Go.ChangeAt Go.RowKit
set_option linter.unusedVariables false
set_option linter.unusedSimpArgs false


set_option maxRecDepth 100000 in
set_option maxHeartbeats 1000000 in
theorem rp_bad (b off n c : Nat) (m f : Int) (w : World) (hb : b < w.heap.size) (hcell : w.cell? ⟨b, off, none⟩ = some (.int .u8 f)) (hn1 : 1 ≤ n) (hf : f < 128) (fn ex : Int) (bl wl : Nat) (at_ q v an orr co le : Int) (mo : Bool) (nx : Int) (ol : Nat)
    (hF : ∀ W, Below w.heap.size w W → Calls Try.prog 40 #[.slice (some ⟨b, off, none⟩) n c, .int .i64 m] W fun e w' => ∃ BA bc WA wc OA oc, e = .returned (.tuple #[.agg #[.int .i64 fn, .int .i64 ex, .slice BA bl bc, .slice WA wl wc, .int .i64 at_, .int .i64 q, .int .u16 v, .int .u16 an, .int .u16 orr, .int .i64 co, .int .i64 le, .bool mo, .int .i64 nx, .slice OA ol oc], .bool false]) ∧ Below W.heap.size W w') :
    Calls Try.prog 13 #[.slice (some ⟨b, off, none⟩) n c, .int .i64 m] w fun e w' => e = .returned (.tuple #[.agg #[.int .i64 0, .int .i64 0, .slice none 0 0, .slice none 0 0, .int .i64 0, .int .i64 0, .int .u16 0, .int .u16 0, .int .u16 0, .int .i64 0, .int .i64 0, .bool false, .int .i64 0, .slice none 0 0], .int .i64 2]) ∧ Below w.heap.size w w' := by
  have HF := Lib.hid hF
  clear hF
  have hc0 : (w.alloc (.cells #[.int .i64 0, .int .i64 0, .slice none 0 0, .slice none 0 0, .int .i64 0, .int .i64 0, .int .u16 0, .int .u16 0, .int .u16 0, .int .i64 0, .int .i64 0, .bool false, .int .i64 0, .slice none 0 0] 31)).cell? ⟨b, off, none⟩ = some (.int .u8 f) := (World.cell?_alloc_lt w _ ⟨b, off, none⟩ hb).trans hcell
  have hn0 : (0 : Int) < (n : Int) := by omega
  have hn00 : ((n : Int) == 0) = false := beq_eq_false_iff_ne.2 (by omega)
  have hf8 : ¬ (128 : Int) ≤ f := by omega
  clear hcell
  go_enter Try.func13, Try.ntmps13
  go_wp2_with (first
    | (go_at_call 40
       refine (HF.out _ ((Below.refl _ _).alloc (Nat.le_refl _) _)).mono ?_
       rintro e w1 ⟨BA, bc, WA, wc, OA, oc, rfl, hb1⟩
       have hk1 : Below (w.heap.size + 1) (w.alloc (.cells #[.int .i64 0, .int .i64 0, .slice none 0 0, .slice none 0 0, .int .i64 0, .int .i64 0, .int .u16 0, .int .u16 0, .int .u16 0, .int .i64 0, .int .i64 0, .bool false, .int .i64 0, .slice none 0 0] 31)) w1 := by
         rwa [show (w.alloc (.cells #[.int .i64 0, .int .i64 0, .slice none 0 0, .slice none 0 0, .int .i64 0, .int .i64 0, .int .u16 0, .int .u16 0, .int .u16 0, .int .i64 0, .int .i64 0, .bool false, .int .i64 0, .slice none 0 0] 31)).heap.size = w.heap.size + 1 by simp] at hb1
       have h0 := box14 _ _ _ _ _ _ _ _ _ _ _ _ _ _ _ w w1 hk1
       have hz1 : w.heap.size < w1.heap.size := h0.lt
       have HB1 : Hid (Below w.heap.size w w1) := ((Below.refl _ _).alloc (Nat.le_refl _) _).trans (hb1.mono (by simp))
       have hk2 : Below w1.heap.size w1 (w1.alloc (.cells #[.int .i64 fn, .int .i64 ex, .slice BA bl bc, .slice WA wl wc, .int .i64 at_, .int .i64 q, .int .u16 v, .int .u16 an, .int .u16 orr, .int .i64 co, .int .i64 le, .bool mo, .int .i64 nx, .slice OA ol oc] 31)) := (Below.refl _ _).alloc (Nat.le_refl _) _
       have hg0 := h0.below hk2 hz1
       have HG0 := Lib.hid hg0
       have HK2 : Hid (Below w.heap.size w (w1.alloc (.cells #[.int .i64 fn, .int .i64 ex, .slice BA bl bc, .slice WA wl wc, .int .i64 at_, .int .i64 q, .int .u16 v, .int .u16 an, .int .u16 orr, .int .i64 co, .int .i64 le, .bool mo, .int .i64 nx, .slice OA ol oc] 31))) := HB1.out.trans (hk2.mono HB1.out.size)
       have H01 := Lib.hid h0
       obtain ⟨hq0, hq1, hq2, hq3, hq4, hq5, hq6, hq7, hq8, hq9, hq10, hq11, hq12, hq13⟩ := cells14 h0
       have hf0 := h0.frozen 0
       have hf1 := h0.frozen 1
       have hf2 := h0.frozen 2
       have hf3 := h0.frozen 3
       have hf4 := h0.frozen 4
       have hf5 := h0.frozen 5
       have hf6 := h0.frozen 6
       have hf7 := h0.frozen 7
       have hf8 := h0.frozen 8
       have hf9 := h0.frozen 9
       have hf10 := h0.frozen 10
       have hf11 := h0.frozen 11
       have hf12 := h0.frozen 12
       have hf13 := h0.frozen 13
       clear hb1 hk1 h0 hk2 hg0))
  obtain ⟨w9, hw9⟩ : ∃ w9, (((((((((((((((w1.setCell ⟨w.heap.size, 0, none⟩ (.int .i64 0)).setCell ⟨w.heap.size, 1, none⟩ (.int .i64 0)).setCell ⟨w.heap.size, 2, none⟩ (.slice none 0 0)).setCell ⟨w.heap.size, 3, none⟩ (.slice none 0 0)).setCell ⟨w.heap.size, 4, none⟩ (.int .i64 0)).setCell ⟨w.heap.size, 5, none⟩ (.int .i64 0)).setCell ⟨w.heap.size, 6, none⟩ (.int .u16 0)).setCell ⟨w.heap.size, 7, none⟩ (.int .u16 0)).setCell ⟨w.heap.size, 8, none⟩ (.int .u16 0)).setCell ⟨w.heap.size, 9, none⟩ (.int .i64 0)).setCell ⟨w.heap.size, 10, none⟩ (.int .i64 0)).setCell ⟨w.heap.size, 11, none⟩ (.bool false)).setCell ⟨w.heap.size, 12, none⟩ (.int .i64 0)).setCell ⟨w.heap.size, 13, none⟩ (.slice none 0 0))) = w9 := ⟨_, rfl⟩
  have hwh := all14 H01.out (.int .i64 0) (.int .i64 0) (.slice none 0 0) (.slice none 0 0) (.int .i64 0) (.int .i64 0) (.int .u16 0) (.int .u16 0) (.int .u16 0) (.int .i64 0) (.int .i64 0) (.bool false) (.int .i64 0) (.slice none 0 0) rfl
  have hbb := bel14 HB1.out (.int .i64 0) (.int .i64 0) (.slice none 0 0) (.slice none 0 0) (.int .i64 0) (.int .i64 0) (.int .u16 0) (.int .u16 0) (.int .u16 0) (.int .i64 0) (.int .i64 0) (.bool false) (.int .i64 0) (.slice none 0 0)
  rw [hw9] at hwh hbb
  rw [hw9]
  have hz9 : w.heap.size < w9.heap.size := hwh.lt
  obtain ⟨he0, he1, he2, he3, he4, he5, he6, he7, he8, he9, he10, he11, he12, he13⟩ := cells14 hwh
  exact bodyPost_ret (v := .tuple #[.agg #[.int .i64 0, .int .i64 0, .slice none 0 0, .slice none 0 0, .int .i64 0, .int .i64 0, .int .u16 0, .int .u16 0, .int .u16 0, .int .i64 0, .int .i64 0, .bool false, .int .i64 0, .slice none 0 0], .int .i64 2]) (by simp [results, Try.results13, go_sem, hz9, he0, he1, he2, he3, he4, he5, he6, he7, he8, he9, he10, he11, he12, he13]) rfl ⟨rfl, hbb.alloc hbb.size _⟩

set_option maxRecDepth 100000 in
set_option maxHeartbeats 1000000 in
theorem rp_ok (b off n c : Nat) (m f : Int) (w : World) (hb : b < w.heap.size) (hcell : w.cell? ⟨b, off, none⟩ = some (.int .u8 f)) (hn1 : 1 ≤ n) (hf : f < 128) (fn ex : Int) (bl wl : Nat) (at_ q v an orr co le : Int) (mo : Bool) (nx : Int) (ol : Nat) (R : Nat → World → Option Addr → Nat → Option Addr → Nat → Option Addr → Nat → Prop)
    (hF : ∀ W, Below w.heap.size w W → Calls Try.prog 40 #[.slice (some ⟨b, off, none⟩) n c, .int .i64 m] W fun e w' => ∃ BA bc WA wc OA oc, e = .returned (.tuple #[.agg #[.int .i64 fn, .int .i64 ex, .slice BA bl bc, .slice WA wl wc, .int .i64 at_, .int .i64 q, .int .u16 v, .int .u16 an, .int .u16 orr, .int .i64 co, .int .i64 le, .bool mo, .int .i64 nx, .slice OA ol oc], .bool true]) ∧ R W.heap.size w' BA bc WA wc OA oc ∧ Below W.heap.size W w')
    (hRk : ∀ base X Y BA bc WA wc OA oc, R base X BA bc WA wc OA oc → Below X.heap.size X Y → R base Y BA bc WA wc OA oc)
    (hRs : ∀ base X (p : Addr) (u : Value) BA bc WA wc OA oc, R base X BA bc WA wc OA oc → p.block < base → R base (X.setCell p u) BA bc WA wc OA oc)
    (hT : ∀ base X BA bc WA wc OA oc, R base X BA bc WA wc OA oc → ∀ W, Below X.heap.size X W → Calls Try.prog 41 #[.agg #[.int .i64 fn, .int .i64 ex, .slice BA bl bc, .slice WA wl wc, .int .i64 at_, .int .i64 q, .int .u16 v, .int .u16 an, .int .u16 orr, .int .i64 co, .int .i64 le, .bool mo, .int .i64 nx, .slice OA ol oc]] W fun e w' => e = .returned (.bool true) ∧ Below W.heap.size W w') :
    Calls Try.prog 13 #[.slice (some ⟨b, off, none⟩) n c, .int .i64 m] w fun e w' => ∃ BA bc WA wc OA oc, e = .returned (.tuple #[.agg #[.int .i64 fn, .int .i64 ex, .slice BA bl bc, .slice WA wl wc, .int .i64 at_, .int .i64 q, .int .u16 v, .int .u16 an, .int .u16 orr, .int .i64 co, .int .i64 le, .bool mo, .int .i64 nx, .slice OA ol oc], .int .i64 0]) ∧ R (w.heap.size + 1) w' BA bc WA wc OA oc ∧ Below w.heap.size w w' := by
  have HF := Lib.hid hF
  clear hF
  have hc0 : (w.alloc (.cells #[.int .i64 0, .int .i64 0, .slice none 0 0, .slice none 0 0, .int .i64 0, .int .i64 0, .int .u16 0, .int .u16 0, .int .u16 0, .int .i64 0, .int .i64 0, .bool false, .int .i64 0, .slice none 0 0] 31)).cell? ⟨b, off, none⟩ = some (.int .u8 f) := (World.cell?_alloc_lt w _ ⟨b, off, none⟩ hb).trans hcell
  have hn0 : (0 : Int) < (n : Int) := by omega
  have hn00 : ((n : Int) == 0) = false := beq_eq_false_iff_ne.2 (by omega)
  have hf8 : ¬ (128 : Int) ≤ f := by omega
  clear hcell
  go_enter Try.func13, Try.ntmps13
  go_wp2_with (first
    | (go_at_call 40
       refine (HF.out _ ((Below.refl _ _).alloc (Nat.le_refl _) _)).mono ?_
       rintro e w1 ⟨BA, bc, WA, wc, OA, oc, rfl, hR1, hb1⟩
       have hk1 : Below (w.heap.size + 1) (w.alloc (.cells #[.int .i64 0, .int .i64 0, .slice none 0 0, .slice none 0 0, .int .i64 0, .int .i64 0, .int .u16 0, .int .u16 0, .int .u16 0, .int .i64 0, .int .i64 0, .bool false, .int .i64 0, .slice none 0 0] 31)) w1 := by
         rwa [show (w.alloc (.cells #[.int .i64 0, .int .i64 0, .slice none 0 0, .slice none 0 0, .int .i64 0, .int .i64 0, .int .u16 0, .int .u16 0, .int .u16 0, .int .i64 0, .int .i64 0, .bool false, .int .i64 0, .slice none 0 0] 31)).heap.size = w.heap.size + 1 by simp] at hb1
       have h0 := box14 _ _ _ _ _ _ _ _ _ _ _ _ _ _ _ w w1 hk1
       have hz1 : w.heap.size < w1.heap.size := h0.lt
       have HB1 : Hid (Below w.heap.size w w1) := ((Below.refl _ _).alloc (Nat.le_refl _) _).trans (hb1.mono (by simp))
       have hk2 : Below w1.heap.size w1 (w1.alloc (.cells #[.int .i64 fn, .int .i64 ex, .slice BA bl bc, .slice WA wl wc, .int .i64 at_, .int .i64 q, .int .u16 v, .int .u16 an, .int .u16 orr, .int .i64 co, .int .i64 le, .bool mo, .int .i64 nx, .slice OA ol oc] 31)) := (Below.refl _ _).alloc (Nat.le_refl _) _
       have hg0 := h0.below hk2 hz1
       have HG0 := Lib.hid hg0
       have HK2 : Hid (Below w.heap.size w (w1.alloc (.cells #[.int .i64 fn, .int .i64 ex, .slice BA bl bc, .slice WA wl wc, .int .i64 at_, .int .i64 q, .int .u16 v, .int .u16 an, .int .u16 orr, .int .i64 co, .int .i64 le, .bool mo, .int .i64 nx, .slice OA ol oc] 31))) := HB1.out.trans (hk2.mono HB1.out.size)
       have H01 := Lib.hid h0
       rw [show (w.alloc (.cells #[.int .i64 0, .int .i64 0, .slice none 0 0, .slice none 0 0, .int .i64 0, .int .i64 0, .int .u16 0, .int .u16 0, .int .u16 0, .int .i64 0, .int .i64 0, .bool false, .int .i64 0, .slice none 0 0] 31)).heap.size = w.heap.size + 1 by simp] at hR1
       have HR1 := Lib.hid hR1
       have HFT := Lib.hid (hT _ _ _ _ _ _ _ _ hR1 _ hk2)
       obtain ⟨hq0, hq1, hq2, hq3, hq4, hq5, hq6, hq7, hq8, hq9, hq10, hq11, hq12, hq13⟩ := cells14 h0
       have hf0 := h0.frozen 0
       have hf1 := h0.frozen 1
       have hf2 := h0.frozen 2
       have hf3 := h0.frozen 3
       have hf4 := h0.frozen 4
       have hf5 := h0.frozen 5
       have hf6 := h0.frozen 6
       have hf7 := h0.frozen 7
       have hf8 := h0.frozen 8
       have hf9 := h0.frozen 9
       have hf10 := h0.frozen 10
       have hf11 := h0.frozen 11
       have hf12 := h0.frozen 12
       have hf13 := h0.frozen 13
       clear hb1 hk1 h0 hk2 hg0 hR1)
    | (go_at_call 41
       (with_reducible refine HFT.out.mono ?_)
       rintro e w2 ⟨rfl, hb2⟩
       have hk3 : Below (w1.heap.size + 1) (w1.alloc (.cells #[.int .i64 fn, .int .i64 ex, .slice BA bl bc, .slice WA wl wc, .int .i64 at_, .int .i64 q, .int .u16 v, .int .u16 an, .int .u16 orr, .int .i64 co, .int .i64 le, .bool mo, .int .i64 nx, .slice OA ol oc] 31)) w2 := by
         rwa [show (w1.alloc (.cells #[.int .i64 fn, .int .i64 ex, .slice BA bl bc, .slice WA wl wc, .int .i64 at_, .int .i64 q, .int .u16 v, .int .u16 an, .int .u16 orr, .int .i64 co, .int .i64 le, .bool mo, .int .i64 nx, .slice OA ol oc] 31)).heap.size = w1.heap.size + 1 by simp] at hb2
       have ht := box14 _ _ _ _ _ _ _ _ _ _ _ _ _ _ _ w1 w2 hk3
       have hb12 : Below w1.heap.size w1 w2 := ((Below.refl _ _).alloc (Nat.le_refl _) _).trans (hb2.mono (by simp))
       have h02 := H01.out.below hb12 hz1
       have HB2 : Hid (Below w.heap.size w w2) := HB1.out.trans (hb12.mono HB1.out.size)
       have hz2 : w.heap.size < w2.heap.size := h02.lt
       have hz3 : w1.heap.size < w2.heap.size := ht.lt
       have hz4 : w.heap.size < w1.heap.size := hz1
       have HR2 := Lib.hid (hRk _ _ _ _ _ _ _ _ _ HR1.out hb12)
       have H02 := Lib.hid h02
       obtain ⟨hu0, hu1, hu2, hu3, hu4, hu5, hu6, hu7, hu8, hu9, hu10, hu11, hu12, hu13⟩ := cells14 h02
       obtain ⟨hv0, hv1, hv2, hv3, hv4, hv5, hv6, hv7, hv8, hv9, hv10, hv11, hv12, hv13⟩ := cells14 ht
       have hx0 := h02.frozen 0
       have hx1 := h02.frozen 1
       have hx2 := h02.frozen 2
       have hx3 := h02.frozen 3
       have hx4 := h02.frozen 4
       have hx5 := h02.frozen 5
       have hx6 := h02.frozen 6
       have hx7 := h02.frozen 7
       have hx8 := h02.frozen 8
       have hx9 := h02.frozen 9
       have hx10 := h02.frozen 10
       have hx11 := h02.frozen 11
       have hx12 := h02.frozen 12
       have hx13 := h02.frozen 13
       clear hb2 hk3 ht hb12 h02))
  obtain ⟨w9, hw9⟩ : ∃ w9, (((((((((((((((w2.setCell ⟨w.heap.size, 0, none⟩ (.int .i64 fn)).setCell ⟨w.heap.size, 1, none⟩ (.int .i64 ex)).setCell ⟨w.heap.size, 2, none⟩ (.slice BA bl bc)).setCell ⟨w.heap.size, 3, none⟩ (.slice WA wl wc)).setCell ⟨w.heap.size, 4, none⟩ (.int .i64 at_)).setCell ⟨w.heap.size, 5, none⟩ (.int .i64 q)).setCell ⟨w.heap.size, 6, none⟩ (.int .u16 v)).setCell ⟨w.heap.size, 7, none⟩ (.int .u16 an)).setCell ⟨w.heap.size, 8, none⟩ (.int .u16 orr)).setCell ⟨w.heap.size, 9, none⟩ (.int .i64 co)).setCell ⟨w.heap.size, 10, none⟩ (.int .i64 le)).setCell ⟨w.heap.size, 11, none⟩ (.bool mo)).setCell ⟨w.heap.size, 12, none⟩ (.int .i64 nx)).setCell ⟨w.heap.size, 13, none⟩ (.slice OA ol oc))) = w9 := ⟨_, rfl⟩
  have hwh := all14 H02.out (.int .i64 fn) (.int .i64 ex) (.slice BA bl bc) (.slice WA wl wc) (.int .i64 at_) (.int .i64 q) (.int .u16 v) (.int .u16 an) (.int .u16 orr) (.int .i64 co) (.int .i64 le) (.bool mo) (.int .i64 nx) (.slice OA ol oc) rfl
  have hbb := bel14 HB2.out (.int .i64 fn) (.int .i64 ex) (.slice BA bl bc) (.slice WA wl wc) (.int .i64 at_) (.int .i64 q) (.int .u16 v) (.int .u16 an) (.int .u16 orr) (.int .i64 co) (.int .i64 le) (.bool mo) (.int .i64 nx) (.slice OA ol oc)
  rw [hw9] at hwh hbb
  have hr9 : R (w.heap.size + 1) w9 BA bc WA wc OA oc := by rw [← hw9]; exact (hRs _ _ ⟨w.heap.size, 13, none⟩ _ _ _ _ _ _ _ (hRs _ _ ⟨w.heap.size, 12, none⟩ _ _ _ _ _ _ _ (hRs _ _ ⟨w.heap.size, 11, none⟩ _ _ _ _ _ _ _ (hRs _ _ ⟨w.heap.size, 10, none⟩ _ _ _ _ _ _ _ (hRs _ _ ⟨w.heap.size, 9, none⟩ _ _ _ _ _ _ _ (hRs _ _ ⟨w.heap.size, 8, none⟩ _ _ _ _ _ _ _ (hRs _ _ ⟨w.heap.size, 7, none⟩ _ _ _ _ _ _ _ (hRs _ _ ⟨w.heap.size, 6, none⟩ _ _ _ _ _ _ _ (hRs _ _ ⟨w.heap.size, 5, none⟩ _ _ _ _ _ _ _ (hRs _ _ ⟨w.heap.size, 4, none⟩ _ _ _ _ _ _ _ (hRs _ _ ⟨w.heap.size, 3, none⟩ _ _ _ _ _ _ _ (hRs _ _ ⟨w.heap.size, 2, none⟩ _ _ _ _ _ _ _ (hRs _ _ ⟨w.heap.size, 1, none⟩ _ _ _ _ _ _ _ (hRs _ _ ⟨w.heap.size, 0, none⟩ _ _ _ _ _ _ _ HR2.out (Nat.lt_succ_self _)) (Nat.lt_succ_self _)) (Nat.lt_succ_self _)) (Nat.lt_succ_self _)) (Nat.lt_succ_self _)) (Nat.lt_succ_self _)) (Nat.lt_succ_self _)) (Nat.lt_succ_self _)) (Nat.lt_succ_self _)) (Nat.lt_succ_self _)) (Nat.lt_succ_self _)) (Nat.lt_succ_self _)) (Nat.lt_succ_self _)) (Nat.lt_succ_self _))
  rw [hw9]
  have hz9 : w.heap.size < w9.heap.size := hwh.lt
  obtain ⟨he0, he1, he2, he3, he4, he5, he6, he7, he8, he9, he10, he11, he12, he13⟩ := cells14 hwh
  exact bodyPost_ret (v := .tuple #[.agg #[.int .i64 fn, .int .i64 ex, .slice BA bl bc, .slice WA wl wc, .int .i64 at_, .int .i64 q, .int .u16 v, .int .u16 an, .int .u16 orr, .int .i64 co, .int .i64 le, .bool mo, .int .i64 nx, .slice OA ol oc], .int .i64 0]) (by simp [results, Try.results13, go_sem, he0, he1, he2, he3, he4, he5, he6, he7, he8, he9, he10, he11, he12, he13]) rfl ⟨BA, bc, WA, wc, OA, oc, rfl, hr9, hbb⟩

set_option maxRecDepth 100000 in
set_option maxHeartbeats 1000000 in
theorem rp_not (b off n c : Nat) (m f : Int) (w : World) (hb : b < w.heap.size) (hcell : w.cell? ⟨b, off, none⟩ = some (.int .u8 f)) (hn1 : 1 ≤ n) (hf : f < 128) (fn ex : Int) (bl wl : Nat) (at_ q v an orr co le : Int) (mo : Bool) (nx : Int) (ol : Nat) (R : Nat → World → Option Addr → Nat → Option Addr → Nat → Option Addr → Nat → Prop)
    (hF : ∀ W, Below w.heap.size w W → Calls Try.prog 40 #[.slice (some ⟨b, off, none⟩) n c, .int .i64 m] W fun e w' => ∃ BA bc WA wc OA oc, e = .returned (.tuple #[.agg #[.int .i64 fn, .int .i64 ex, .slice BA bl bc, .slice WA wl wc, .int .i64 at_, .int .i64 q, .int .u16 v, .int .u16 an, .int .u16 orr, .int .i64 co, .int .i64 le, .bool mo, .int .i64 nx, .slice OA ol oc], .bool true]) ∧ R W.heap.size w' BA bc WA wc OA oc ∧ Below W.heap.size W w')
    (hRk : ∀ base X Y BA bc WA wc OA oc, R base X BA bc WA wc OA oc → Below X.heap.size X Y → R base Y BA bc WA wc OA oc)
    (hRs : ∀ base X (p : Addr) (u : Value) BA bc WA wc OA oc, R base X BA bc WA wc OA oc → p.block < base → R base (X.setCell p u) BA bc WA wc OA oc)
    (hT : ∀ base X BA bc WA wc OA oc, R base X BA bc WA wc OA oc → ∀ W, Below X.heap.size X W → Calls Try.prog 41 #[.agg #[.int .i64 fn, .int .i64 ex, .slice BA bl bc, .slice WA wl wc, .int .i64 at_, .int .i64 q, .int .u16 v, .int .u16 an, .int .u16 orr, .int .i64 co, .int .i64 le, .bool mo, .int .i64 nx, .slice OA ol oc]] W fun e w' => e = .returned (.bool false) ∧ Below W.heap.size W w') :
    Calls Try.prog 13 #[.slice (some ⟨b, off, none⟩) n c, .int .i64 m] w fun e w' => e = .returned (.tuple #[.agg #[.int .i64 0, .int .i64 0, .slice none 0 0, .slice none 0 0, .int .i64 0, .int .i64 0, .int .u16 0, .int .u16 0, .int .u16 0, .int .i64 0, .int .i64 0, .bool false, .int .i64 0, .slice none 0 0], .int .i64 2]) ∧ Below w.heap.size w w' := by
  have HF := Lib.hid hF
  clear hF
  have hc0 : (w.alloc (.cells #[.int .i64 0, .int .i64 0, .slice none 0 0, .slice none 0 0, .int .i64 0, .int .i64 0, .int .u16 0, .int .u16 0, .int .u16 0, .int .i64 0, .int .i64 0, .bool false, .int .i64 0, .slice none 0 0] 31)).cell? ⟨b, off, none⟩ = some (.int .u8 f) := (World.cell?_alloc_lt w _ ⟨b, off, none⟩ hb).trans hcell
  have hn0 : (0 : Int) < (n : Int) := by omega
  have hn00 : ((n : Int) == 0) = false := beq_eq_false_iff_ne.2 (by omega)
  have hf8 : ¬ (128 : Int) ≤ f := by omega
  clear hcell
  go_enter Try.func13, Try.ntmps13
  go_wp2_with (first
    | (go_at_call 40
       refine (HF.out _ ((Below.refl _ _).alloc (Nat.le_refl _) _)).mono ?_
       rintro e w1 ⟨BA, bc, WA, wc, OA, oc, rfl, hR1, hb1⟩
       have hk1 : Below (w.heap.size + 1) (w.alloc (.cells #[.int .i64 0, .int .i64 0, .slice none 0 0, .slice none 0 0, .int .i64 0, .int .i64 0, .int .u16 0, .int .u16 0, .int .u16 0, .int .i64 0, .int .i64 0, .bool false, .int .i64 0, .slice none 0 0] 31)) w1 := by
         rwa [show (w.alloc (.cells #[.int .i64 0, .int .i64 0, .slice none 0 0, .slice none 0 0, .int .i64 0, .int .i64 0, .int .u16 0, .int .u16 0, .int .u16 0, .int .i64 0, .int .i64 0, .bool false, .int .i64 0, .slice none 0 0] 31)).heap.size = w.heap.size + 1 by simp] at hb1
       have h0 := box14 _ _ _ _ _ _ _ _ _ _ _ _ _ _ _ w w1 hk1
       have hz1 : w.heap.size < w1.heap.size := h0.lt
       have HB1 : Hid (Below w.heap.size w w1) := ((Below.refl _ _).alloc (Nat.le_refl _) _).trans (hb1.mono (by simp))
       have hk2 : Below w1.heap.size w1 (w1.alloc (.cells #[.int .i64 fn, .int .i64 ex, .slice BA bl bc, .slice WA wl wc, .int .i64 at_, .int .i64 q, .int .u16 v, .int .u16 an, .int .u16 orr, .int .i64 co, .int .i64 le, .bool mo, .int .i64 nx, .slice OA ol oc] 31)) := (Below.refl _ _).alloc (Nat.le_refl _) _
       have hg0 := h0.below hk2 hz1
       have HG0 := Lib.hid hg0
       have HK2 : Hid (Below w.heap.size w (w1.alloc (.cells #[.int .i64 fn, .int .i64 ex, .slice BA bl bc, .slice WA wl wc, .int .i64 at_, .int .i64 q, .int .u16 v, .int .u16 an, .int .u16 orr, .int .i64 co, .int .i64 le, .bool mo, .int .i64 nx, .slice OA ol oc] 31))) := HB1.out.trans (hk2.mono HB1.out.size)
       have H01 := Lib.hid h0
       rw [show (w.alloc (.cells #[.int .i64 0, .int .i64 0, .slice none 0 0, .slice none 0 0, .int .i64 0, .int .i64 0, .int .u16 0, .int .u16 0, .int .u16 0, .int .i64 0, .int .i64 0, .bool false, .int .i64 0, .slice none 0 0] 31)).heap.size = w.heap.size + 1 by simp] at hR1
       have HR1 := Lib.hid hR1
       have HFT := Lib.hid (hT _ _ _ _ _ _ _ _ hR1 _ hk2)
       obtain ⟨hq0, hq1, hq2, hq3, hq4, hq5, hq6, hq7, hq8, hq9, hq10, hq11, hq12, hq13⟩ := cells14 h0
       have hf0 := h0.frozen 0
       have hf1 := h0.frozen 1
       have hf2 := h0.frozen 2
       have hf3 := h0.frozen 3
       have hf4 := h0.frozen 4
       have hf5 := h0.frozen 5
       have hf6 := h0.frozen 6
       have hf7 := h0.frozen 7
       have hf8 := h0.frozen 8
       have hf9 := h0.frozen 9
       have hf10 := h0.frozen 10
       have hf11 := h0.frozen 11
       have hf12 := h0.frozen 12
       have hf13 := h0.frozen 13
       clear hb1 hk1 h0 hk2 hg0 hR1)
    | (go_at_call 41
       (with_reducible refine HFT.out.mono ?_)
       rintro e w2 ⟨rfl, hb2⟩
       have hk3 : Below (w1.heap.size + 1) (w1.alloc (.cells #[.int .i64 fn, .int .i64 ex, .slice BA bl bc, .slice WA wl wc, .int .i64 at_, .int .i64 q, .int .u16 v, .int .u16 an, .int .u16 orr, .int .i64 co, .int .i64 le, .bool mo, .int .i64 nx, .slice OA ol oc] 31)) w2 := by
         rwa [show (w1.alloc (.cells #[.int .i64 fn, .int .i64 ex, .slice BA bl bc, .slice WA wl wc, .int .i64 at_, .int .i64 q, .int .u16 v, .int .u16 an, .int .u16 orr, .int .i64 co, .int .i64 le, .bool mo, .int .i64 nx, .slice OA ol oc] 31)).heap.size = w1.heap.size + 1 by simp] at hb2
       have ht := box14 _ _ _ _ _ _ _ _ _ _ _ _ _ _ _ w1 w2 hk3
       have hb12 : Below w1.heap.size w1 w2 := ((Below.refl _ _).alloc (Nat.le_refl _) _).trans (hb2.mono (by simp))
       have h02 := H01.out.below hb12 hz1
       have HB2 : Hid (Below w.heap.size w w2) := HB1.out.trans (hb12.mono HB1.out.size)
       have hz2 : w.heap.size < w2.heap.size := h02.lt
       have hz3 : w1.heap.size < w2.heap.size := ht.lt
       have hz4 : w.heap.size < w1.heap.size := hz1
       have H02 := Lib.hid h02
       obtain ⟨hu0, hu1, hu2, hu3, hu4, hu5, hu6, hu7, hu8, hu9, hu10, hu11, hu12, hu13⟩ := cells14 h02
       obtain ⟨hv0, hv1, hv2, hv3, hv4, hv5, hv6, hv7, hv8, hv9, hv10, hv11, hv12, hv13⟩ := cells14 ht
       have hx0 := h02.frozen 0
       have hx1 := h02.frozen 1
       have hx2 := h02.frozen 2
       have hx3 := h02.frozen 3
       have hx4 := h02.frozen 4
       have hx5 := h02.frozen 5
       have hx6 := h02.frozen 6
       have hx7 := h02.frozen 7
       have hx8 := h02.frozen 8
       have hx9 := h02.frozen 9
       have hx10 := h02.frozen 10
       have hx11 := h02.frozen 11
       have hx12 := h02.frozen 12
       have hx13 := h02.frozen 13
       clear hb2 hk3 ht hb12 h02))
  obtain ⟨w9, hw9⟩ : ∃ w9, (((((((((((((((w2.setCell ⟨w.heap.size, 0, none⟩ (.int .i64 0)).setCell ⟨w.heap.size, 1, none⟩ (.int .i64 0)).setCell ⟨w.heap.size, 2, none⟩ (.slice none 0 0)).setCell ⟨w.heap.size, 3, none⟩ (.slice none 0 0)).setCell ⟨w.heap.size, 4, none⟩ (.int .i64 0)).setCell ⟨w.heap.size, 5, none⟩ (.int .i64 0)).setCell ⟨w.heap.size, 6, none⟩ (.int .u16 0)).setCell ⟨w.heap.size, 7, none⟩ (.int .u16 0)).setCell ⟨w.heap.size, 8, none⟩ (.int .u16 0)).setCell ⟨w.heap.size, 9, none⟩ (.int .i64 0)).setCell ⟨w.heap.size, 10, none⟩ (.int .i64 0)).setCell ⟨w.heap.size, 11, none⟩ (.bool false)).setCell ⟨w.heap.size, 12, none⟩ (.int .i64 0)).setCell ⟨w.heap.size, 13, none⟩ (.slice none 0 0))) = w9 := ⟨_, rfl⟩
  have hwh := all14 H02.out (.int .i64 0) (.int .i64 0) (.slice none 0 0) (.slice none 0 0) (.int .i64 0) (.int .i64 0) (.int .u16 0) (.int .u16 0) (.int .u16 0) (.int .i64 0) (.int .i64 0) (.bool false) (.int .i64 0) (.slice none 0 0) rfl
  have hbb := bel14 HB2.out (.int .i64 0) (.int .i64 0) (.slice none 0 0) (.slice none 0 0) (.int .i64 0) (.int .i64 0) (.int .u16 0) (.int .u16 0) (.int .u16 0) (.int .i64 0) (.int .i64 0) (.bool false) (.int .i64 0) (.slice none 0 0)
  rw [hw9] at hwh hbb
  rw [hw9]
  have hz9 : w.heap.size < w9.heap.size := hwh.lt
  obtain ⟨he0, he1, he2, he3, he4, he5, he6, he7, he8, he9, he10, he11, he12, he13⟩ := cells14 hwh
  exact bodyPost_ret (v := .tuple #[.agg #[.int .i64 0, .int .i64 0, .slice none 0 0, .slice none 0 0, .int .i64 0, .int .i64 0, .int .u16 0, .int .u16 0, .int .u16 0, .int .i64 0, .int .i64 0, .bool false, .int .i64 0, .slice none 0 0], .int .i64 2]) (by simp [results, Try.results13, go_sem, he0, he1, he2, he3, he4, he5, he6, he7, he8, he9, he10, he11, he12, he13]) rfl ⟨rfl, hbb⟩

end Go.Proofs.Ytokljdkbheogoaa

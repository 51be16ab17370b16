/- Package tell: fields of functions that have lists. -/
import Derived.Test.YtijfeffjjcbijaaPFieldT
import Derived.Test.YtijfeffjjcbijaaPBox14
namespace Go.Proofs.Ytijfeffjjcbijaa
open Go.ChangeShapes Go.WideShapes Go.ChangeAt Go.RowKit
set_option linter.unusedVariables false
set_option linter.unusedSimpArgs false

set_option maxRecDepth 100000 in
set_option maxHeartbeats 1000000 in
theorem pfT_yes_1 (A : Option Addr) (t c : Nat) (zs : List Int) (m : Int) (w : World) (hr : Row .u8 w w.heap.size A (2 + t) zs) (hx : Bytes8 zs) (hn : 2 + t ≤ 1000) (h0 : zs.getD 0 0 = 1) (hc : 2 + t ≤ c) (hcap : 2 < c) (hu : zs.getD 1 0 = (t : Int)) (k : Nat) (hk : m = (k : Int)) (hkn : t = nb k) :
    Calls Try.prog 92 #[.slice A (2 + t) c, .int .i64 m] w fun e w' => ∃ G g, e = .returned (.tuple #[.agg #[.int .i64 1, .int .i64 0, .slice G k g, .slice none 0 0, .int .i64 0, .int .i64 0, .int .u16 0, .int .u16 0, .int .u16 0, .int .i64 0, .int .i64 0, .bool false, .int .i64 0, .slice none 0 0], .bool true]) ∧ w'.ownsRow w.heap.size 4 1 (.slice G k g) k ((unb (zs.drop 2) k).map Value.bool) ∧ Below w.heap.size w w' := by
  obtain ⟨lou, hiu⟩ := hx.at_ 1
  change 0 ≤ zs.getD 1 0 at lou
  change zs.getD 1 0 ≤ 255 at hiu
  rw [hu] at lou hiu
  obtain ⟨p, hp⟩ : ∃ p, gotW zs (2 + t) 1 = p := ⟨_, rfl⟩
  obtain ⟨q, hq⟩ : ∃ q, gotW zs (2 + t) 3 = q := ⟨_, rfl⟩
  obtain ⟨lop, hip⟩ := gotW_bounds hx (2 + t) 1
  rw [hp] at lop hip
  obtain ⟨loq, hiq⟩ := gotW_bounds hx (2 + t) 3
  rw [hq] at loq hiq
  obtain ⟨b, off, rfl, hb, hcell⟩ := hr.2 (by omega)
  have hc0 : (w.alloc (.cells #[.int .i64 0, .int .i64 0, .slice none 0 0, .slice none 0 0, .int .i64 0, .int .i64 0, .int .u16 0, .int .u16 0, .int .u16 0, .int .i64 0, .int .i64 0, .bool false, .int .i64 0, .slice none 0 0] 64)).cell? ⟨b, off, none⟩ = some (.int .u8 1) := by
    rw [World.cell?_alloc_lt w _ ⟨b, off, none⟩ hb]
    have := hcell 0 (by omega)
    rw [Nat.add_zero, h0] at this
    exact this
  have hc0b : ((w.alloc (.cells #[.int .i64 0, .int .i64 0, .slice none 0 0, .slice none 0 0, .int .i64 0, .int .i64 0, .int .u16 0, .int .u16 0, .int .u16 0, .int .i64 0, .int .i64 0, .bool false, .int .i64 0, .slice none 0 0] 64)).alloc (.cells #[.int .i64 1, .int .i64 0, .slice none 0 0, .slice none 0 0, .int .i64 0, .int .i64 0, .int .u16 0, .int .u16 0, .int .u16 0, .int .i64 0, .int .i64 0, .bool false, .int .i64 0, .slice none 0 0] 64)).cell? ⟨b, off, none⟩ = some (.int .u8 1) := by
    rw [World.cell?_alloc_lt _ _ ⟨b, off, none⟩ (by simp; omega)]
    exact hc0
  have hc1b : w.cell? ⟨b, off + 1, none⟩ = some (.int .u8 (t : Int)) := by
    have := hcell 1 (by omega)
    rw [hu] at this
    exact this
  have hn0 : (0 : Int) < (((2 + t) : Nat) : Int) := by omega
  have hn1 : (1 : Int) < (((2 + t) : Nat) : Int) := by omega
  have ea : bits .andNot .u8 1 128 = 1 := by rw [andNot128 _ (by omega) (by omega)]; rfl
  have eb : bits .and .u8 1 128 = 0 := by rw [and128 _ (by omega) (by omega)]; rfl
  have hkw1 : Below w.heap.size w (w.alloc (.cells #[.int .i64 0, .int .i64 0, .slice none 0 0, .slice none 0 0, .int .i64 0, .int .i64 0, .int .u16 0, .int .u16 0, .int .u16 0, .int .i64 0, .int .i64 0, .bool false, .int .i64 0, .slice none 0 0] 64)) := (Below.refl _ _).alloc (Nat.le_refl _) _
  have hkw : Below w.heap.size w ((w.alloc (.cells #[.int .i64 0, .int .i64 0, .slice none 0 0, .slice none 0 0, .int .i64 0, .int .i64 0, .int .u16 0, .int .u16 0, .int .u16 0, .int .i64 0, .int .i64 0, .bool false, .int .i64 0, .slice none 0 0] 64)).alloc (.cells #[.int .i64 1, .int .i64 0, .slice none 0 0, .slice none 0 0, .int .i64 0, .int .i64 0, .int .u16 0, .int .u16 0, .int .u16 0, .int .i64 0, .int .i64 0, .bool false, .int .i64 0, .slice none 0 0] 64)) := ((Below.refl _ _).alloc (Nat.le_refl _) _).alloc (by simp) _
  have HR1 := Lib.hid ((hr.below hkw1).more hkw1.size)
  have HR := Lib.hid ((hr.below hkw).more hkw.size)
  have HX := Lib.hid hx
  have HKW := Lib.hid hkw
  have HG4 : Hid (WholeV ((w.alloc (.cells #[.int .i64 0, .int .i64 0, .slice none 0 0, .slice none 0 0, .int .i64 0, .int .i64 0, .int .u16 0, .int .u16 0, .int .u16 0, .int .i64 0, .int .i64 0, .bool false, .int .i64 0, .slice none 0 0] 64)).alloc (.cells #[.int .i64 1, .int .i64 0, .slice none 0 0, .slice none 0 0, .int .i64 0, .int .i64 0, .int .u16 0, .int .u16 0, .int .u16 0, .int .i64 0, .int .i64 0, .bool false, .int .i64 0, .slice none 0 0] 64)) (w.heap.size + 1) 64 [.int .i64 1, .int .i64 0, .slice none 0 0, .slice none 0 0, .int .i64 0, .int .i64 0, .int .u16 0, .int .u16 0, .int .u16 0, .int .i64 0, .int .i64 0, .bool false, .int .i64 0, .slice none 0 0]) := by
    have h := heap_alloc_new (w.alloc (.cells #[.int .i64 0, .int .i64 0, .slice none 0 0, .slice none 0 0, .int .i64 0, .int .i64 0, .int .u16 0, .int .u16 0, .int .u16 0, .int .i64 0, .int .i64 0, .bool false, .int .i64 0, .slice none 0 0] 64)) (.cells #[.int .i64 1, .int .i64 0, .slice none 0 0, .slice none 0 0, .int .i64 0, .int .i64 0, .int .u16 0, .int .u16 0, .int .u16 0, .int .i64 0, .int .i64 0, .bool false, .int .i64 0, .slice none 0 0] 64)
    rwa [show (w.alloc (.cells #[.int .i64 0, .int .i64 0, .slice none 0 0, .slice none 0 0, .int .i64 0, .int .i64 0, .int .u16 0, .int .u16 0, .int .u16 0, .int .i64 0, .int .i64 0, .bool false, .int .i64 0, .slice none 0 0] 64)).heap.size = w.heap.size + 1 by simp] at h
  have HG2 : Hid (WholeV ((w.alloc (.cells #[.int .i64 0, .int .i64 0, .slice none 0 0, .slice none 0 0, .int .i64 0, .int .i64 0, .int .u16 0, .int .u16 0, .int .u16 0, .int .i64 0, .int .i64 0, .bool false, .int .i64 0, .slice none 0 0] 64)).alloc (.cells #[.int .i64 1, .int .i64 0, .slice none 0 0, .slice none 0 0, .int .i64 0, .int .i64 0, .int .u16 0, .int .u16 0, .int .u16 0, .int .i64 0, .int .i64 0, .bool false, .int .i64 0, .slice none 0 0] 64)) w.heap.size 64 [.int .i64 0, .int .i64 0, .slice none 0 0, .slice none 0 0, .int .i64 0, .int .i64 0, .int .u16 0, .int .u16 0, .int .u16 0, .int .i64 0, .int .i64 0, .bool false, .int .i64 0, .slice none 0 0]) := by
    have h : WholeV (w.alloc (.cells #[.int .i64 0, .int .i64 0, .slice none 0 0, .slice none 0 0, .int .i64 0, .int .i64 0, .int .u16 0, .int .u16 0, .int .u16 0, .int .i64 0, .int .i64 0, .bool false, .int .i64 0, .slice none 0 0] 64)) w.heap.size 64 [.int .i64 0, .int .i64 0, .slice none 0 0, .slice none 0 0, .int .i64 0, .int .i64 0, .int .u16 0, .int .u16 0, .int .u16 0, .int .i64 0, .int .i64 0, .bool false, .int .i64 0, .slice none 0 0] := heap_alloc_new w _
    exact h.below ((Below.refl _ _).alloc (Nat.le_refl _) _) (by simp)
  have HT : Hid (∀ X, Below w.heap.size w X → Row .u8 X X.heap.size (some ⟨b, off + 2, none⟩) t (zs.drop 2)) := fun X hX => ((hr.below hX).more hX.size).tail rfl
  clear hr hx hcell hkw hkw1
  have H0 := Lib.hid h0
  have HU := Lib.hid hu
  clear h0 hu
  have Hp := Lib.hid hp
  have Hq := Lib.hid hq
  clear hp hq
  have hkb : k ≤ 2100 := by unfold nb at hkn; omega
  have HK := Lib.hid hk
  have HKN := Lib.hid hkn
  clear hk hkn
  go_enter Try.func92, Try.ntmps92
  go_wp2_with (first
    | (go_at_call 119; refine (psz_list _ (2 + t) c zs _ 1 (t : Int) HR1.out HX.out (by omega) (by omega) H0.out (by omega) HU.out).mono ?_; rintro e w' ⟨rfl, rfl⟩; rw [show (2 : Int) + (t : Int) = (((2 + t) : Nat) : Int) by omega])
    | (go_at_call 105; (with_reducible refine (pnumber_any (some ⟨b, off, none⟩) (2 + t) c zs 1 p _ Hp.out (HR.out.drewN _) HX.out (by omega)).mono ?_); rintro e w' ⟨rfl, d1, rfl⟩)
    | (go_at_call 105; (with_reducible refine (pnumber_any (some ⟨b, off, none⟩) (2 + t) c zs 1 p _ Hp.out HR.out HX.out (by omega)).mono ?_); rintro e w' ⟨rfl, d1, rfl⟩)
    | (go_at_call 105; (with_reducible refine (pnumber_any (some ⟨b, off, none⟩) (2 + t) c zs 3 q _ Hq.out (HR.out.drewN _) HX.out (by omega)).mono ?_); rintro e w' ⟨rfl, d3, rfl⟩)
    | (go_at_call 105; (with_reducible refine (pnumber_any (some ⟨b, off, none⟩) (2 + t) c zs 3 q _ Hq.out HR.out HX.out (by omega)).mono ?_); rintro e w' ⟨rfl, d3, rfl⟩)
    | (go_at_call 107
       (with_reducible refine (punpack_own _ t _ k m (zs.drop 2) _ HKN.out HK.out (HT.out _ (below_drewN HKW.out _)) (HX.out.drop 2) (by omega)).mono ?_)
       rintro e w5 ⟨G, g, rfl, ho5, hb5⟩
       have hb5' := below_from hb5
       have h1 := HG4.out.below hb5' (by simp)
       have h0 := HG2.out.below hb5' (by simp; omega)
       have HB5 : Hid (Below w.heap.size w w5) := HKW.out.trans (hb5'.mono HKW.out.size)
       have HO5 : Hid (w5.ownsRow (w.heap.size + 2) 4 1 (.slice G k g) k ((unb (zs.drop 2) k).map Value.bool)) := own_mono ho5 (by simp)
       have hz5 : w.heap.size + 1 < w5.heap.size := h1.lt
       obtain ⟨hs0, hs1, hs2, hs3, hs4, hs5, hs6, hs7, hs8, hs9, hs10, hs11, hs12, hs13⟩ := cells14 h1
       obtain ⟨hp0, hp1, hp2, hp3, hp4, hp5, hp6, hp7, hp8, hp9, hp10, hp11, hp12, hp13⟩ := cells14 h0
       have hf0 := h1.frozen 0
       have hf1 := h1.frozen 1
       have hf2 := h1.frozen 2
       have hf3 := h1.frozen 3
       have hf4 := h1.frozen 4
       have hf5 := h1.frozen 5
       have hf6 := h1.frozen 6
       have hf7 := h1.frozen 7
       have hf8 := h1.frozen 8
       have hf9 := h1.frozen 9
       have hf10 := h1.frozen 10
       have hf11 := h1.frozen 11
       have hf12 := h1.frozen 12
       have hf13 := h1.frozen 13
       have hg0 := h0.frozen 0
       have hg1 := h0.frozen 1
       have hg2 := h0.frozen 2
       have hg3 := h0.frozen 3
       have hg4 := h0.frozen 4
       have hg5 := h0.frozen 5
       have hg6 := h0.frozen 6
       have hg7 := h0.frozen 7
       have hg8 := h0.frozen 8
       have hg9 := h0.frozen 9
       have hg10 := h0.frozen 10
       have hg11 := h0.frozen 11
       have hg12 := h0.frozen 12
       have hg13 := h0.frozen 13
       have HH1 := Lib.hid h1
       have HH0 := Lib.hid h0
       clear h1 h0 hb5 hb5' ho5))
  obtain ⟨X, hX⟩ : ∃ X, (w5.setCell ⟨w.heap.size + 1, 2, none⟩ (.slice G k g)) = X := ⟨_, rfl⟩
  have hx0 := HH0.out.below ((Below.refl (w.heap.size + 1) _).setCell (p := ⟨w.heap.size + 1, 2, none⟩) (Nat.le_refl _) (.slice G k g)) (Nat.lt_succ_self _)
  have hxb := HB5.out.setCell (p := ⟨w.heap.size + 1, 2, none⟩) (Nat.le_succ _) (.slice G k g)
  have hox := own_far HO5.out ⟨w.heap.size + 1, 2, none⟩ (show w.heap.size + 1 < w.heap.size + 2 by omega) (.slice G k g)
  rw [hX] at hx0 hxb hox
  rw [hX]
  obtain ⟨w9, hw9⟩ : ∃ w9, (((((((((((((((X.setCell ⟨w.heap.size, 0, none⟩ (.int .i64 1)).setCell ⟨w.heap.size, 1, none⟩ (.int .i64 0)).setCell ⟨w.heap.size, 2, none⟩ (.slice G k g)).setCell ⟨w.heap.size, 3, none⟩ (.slice none 0 0)).setCell ⟨w.heap.size, 4, none⟩ (.int .i64 0)).setCell ⟨w.heap.size, 5, none⟩ (.int .i64 0)).setCell ⟨w.heap.size, 6, none⟩ (.int .u16 0)).setCell ⟨w.heap.size, 7, none⟩ (.int .u16 0)).setCell ⟨w.heap.size, 8, none⟩ (.int .u16 0)).setCell ⟨w.heap.size, 9, none⟩ (.int .i64 0)).setCell ⟨w.heap.size, 10, none⟩ (.int .i64 0)).setCell ⟨w.heap.size, 11, none⟩ (.bool false)).setCell ⟨w.heap.size, 12, none⟩ (.int .i64 0)).setCell ⟨w.heap.size, 13, none⟩ (.slice none 0 0))) = w9 := ⟨_, rfl⟩
  have hwh := all14 hx0 (.int .i64 1) (.int .i64 0) (.slice G k g) (.slice none 0 0) (.int .i64 0) (.int .i64 0) (.int .u16 0) (.int .u16 0) (.int .u16 0) (.int .i64 0) (.int .i64 0) (.bool false) (.int .i64 0) (.slice none 0 0) rfl
  have hbb := bel14 hxb (.int .i64 1) (.int .i64 0) (.slice G k g) (.slice none 0 0) (.int .i64 0) (.int .i64 0) (.int .u16 0) (.int .u16 0) (.int .u16 0) (.int .i64 0) (.int .i64 0) (.bool false) (.int .i64 0) (.slice none 0 0)
  have ho9 : w9.ownsRow (w.heap.size + 2) 4 1 (.slice G k g) k ((unb (zs.drop 2) k).map Value.bool) := by rw [← hw9]; exact (own_far (own_far (own_far (own_far (own_far (own_far (own_far (own_far (own_far (own_far (own_far (own_far (own_far (own_far hox ⟨w.heap.size, 0, none⟩ (show w.heap.size < w.heap.size + 2 by omega) _) ⟨w.heap.size, 1, none⟩ (show w.heap.size < w.heap.size + 2 by omega) _) ⟨w.heap.size, 2, none⟩ (show w.heap.size < w.heap.size + 2 by omega) _) ⟨w.heap.size, 3, none⟩ (show w.heap.size < w.heap.size + 2 by omega) _) ⟨w.heap.size, 4, none⟩ (show w.heap.size < w.heap.size + 2 by omega) _) ⟨w.heap.size, 5, none⟩ (show w.heap.size < w.heap.size + 2 by omega) _) ⟨w.heap.size, 6, none⟩ (show w.heap.size < w.heap.size + 2 by omega) _) ⟨w.heap.size, 7, none⟩ (show w.heap.size < w.heap.size + 2 by omega) _) ⟨w.heap.size, 8, none⟩ (show w.heap.size < w.heap.size + 2 by omega) _) ⟨w.heap.size, 9, none⟩ (show w.heap.size < w.heap.size + 2 by omega) _) ⟨w.heap.size, 10, none⟩ (show w.heap.size < w.heap.size + 2 by omega) _) ⟨w.heap.size, 11, none⟩ (show w.heap.size < w.heap.size + 2 by omega) _) ⟨w.heap.size, 12, none⟩ (show w.heap.size < w.heap.size + 2 by omega) _) ⟨w.heap.size, 13, none⟩ (show w.heap.size < w.heap.size + 2 by omega) _)
  rw [hw9] at hwh hbb
  rw [hw9]
  obtain ⟨he0, he1, he2, he3, he4, he5, he6, he7, he8, he9, he10, he11, he12, he13⟩ := cells14 hwh
  exact bodyPost_ret (v := .tuple #[.agg #[.int .i64 1, .int .i64 0, .slice G k g, .slice none 0 0, .int .i64 0, .int .i64 0, .int .u16 0, .int .u16 0, .int .u16 0, .int .i64 0, .int .i64 0, .bool false, .int .i64 0, .slice none 0 0], .bool true]) (by simp [results, Try.results92, go_sem, he0, he1, he2, he3, he4, he5, he6, he7, he8, he9, he10, he11, he12, he13]) rfl ⟨_, _, rfl, own_mono ho9 (by omega), hbb⟩

end Go.Proofs.Ytijfeffjjcbijaa

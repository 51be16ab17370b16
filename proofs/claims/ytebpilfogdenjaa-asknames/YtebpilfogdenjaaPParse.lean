/- Package ask: Parse, over what fields answers. -/
import Derived.Test.YtebpilfogdenjaaPUnp
import Derived.Test.YtebpilfogdenjaaPRight2
import Derived.Test.YtebpilfogdenjaaAskBox
import Derived.Test.YtebpilfogdenjaaAskList2
namespace Go.Proofs.Ytebpilfogdenjaa
open Go.ChangeShapes Go.WideShapes Go.ChangeAt Go.RowKit
set_option linter.unusedVariables false
set_option linter.unusedSimpArgs false

/-- Twelve cells came back, and a word beside them that says whether they are a request. -/
def FieldsNo (w : World) (e : Ending) (w' : World) : Prop :=
  ∃ (fn at_ nn v an orr : Int) (bl wl : Nat) (ra rn co ob : Int) (BA WA : Option Addr) (bc wc : Nat), e = .returned (.tuple #[.agg #[.int .i64 fn, .int .i64 at_, .int .i64 nn, .int .u16 v, .int .u16 an, .int .u16 orr, .slice BA bl bc, .slice WA wl wc, .int .i64 ra, .int .i64 rn, .int .i64 co, .int .i64 ob], .bool false]) ∧ Below w.heap.size w w'
def FieldsYes (fn at_ nn v an orr : Int) (bl wl : Nat) (ra rn co ob : Int) (bs : List Bool) (ws : List Int) (w : World) (e : Ending) (w' : World) : Prop :=
  ∃ (BA WA : Option Addr) (bc wc : Nat), e = .returned (.tuple #[.agg #[.int .i64 fn, .int .i64 at_, .int .i64 nn, .int .u16 v, .int .u16 an, .int .u16 orr, .slice BA bl bc, .slice WA wl wc, .int .i64 ra, .int .i64 rn, .int .i64 co, .int .i64 ob], .bool true]) ∧ w'.ownsRow w.heap.size 4 1 (.slice BA bl bc) bl (bs.map Value.bool) ∧ w'.ownsRow w.heap.size 26 1 (.slice WA wl wc) wl (ws.map (Value.int .u16)) ∧ Below w.heap.size w w'
/-- An answer of Parse that is no request: the function alone, or not even that. -/
def ParsedNo (f x : Int) (w : World) (e : Ending) (w' : World) : Prop :=
  e = .returned (.tuple #[.agg #[.int .i64 f, .int .i64 0, .int .i64 0, .int .u16 0, .int .u16 0, .int .u16 0, .slice none 0 0, .slice none 0 0, .int .i64 0, .int .i64 0, .int .i64 0, .int .i64 0], .int .i64 x]) ∧ Below w.heap.size w w'
def ParsedYes (fn at_ nn v an orr : Int) (bl wl : Nat) (ra rn co ob : Int) (bs : List Bool) (ws : List Int) (w : World) (e : Ending) (w' : World) : Prop :=
  ∃ (BA WA : Option Addr) (bc wc : Nat), e = .returned (.tuple #[.agg #[.int .i64 fn, .int .i64 at_, .int .i64 nn, .int .u16 v, .int .u16 an, .int .u16 orr, .slice BA bl bc, .slice WA wl wc, .int .i64 ra, .int .i64 rn, .int .i64 co, .int .i64 ob], .int .i64 0]) ∧ w'.ownsRow w.heap.size 4 1 (.slice BA bl bc) bl (bs.map Value.bool) ∧ w'.ownsRow w.heap.size 26 1 (.slice WA wl wc) wl (ws.map (Value.int .u16)) ∧ Below w.heap.size w w'

theorem pparse_edge (A : Option Addr) (n c : Nat) (w : World) (h : n = 0 ∨ 253 < n) :
    Calls Try.prog 11 #[.slice A n c] w (ParsedNo 0 1 w) := by
  rcases h with rfl | h
  · go_enter Try.func11, Try.ntmps11
    go_wp2
    exact bodyPost_ret (v := .tuple #[.agg #[.int .i64 0, .int .i64 0, .int .i64 0, .int .u16 0, .int .u16 0, .int .u16 0, .slice none 0 0, .slice none 0 0, .int .i64 0, .int .i64 0, .int .i64 0, .int .i64 0], .int .i64 1]) (by simp [results, Try.results11, go_sem]) rfl ⟨rfl, (Below.refl _ _).alloc (Nat.le_refl _) _⟩
  · have h1 : (253 : Int) < (n : Int) := by omega
    have h0 : ¬ (n : Int) = 0 := by omega
    go_enter Try.func11, Try.ntmps11
    go_wp2
    exact bodyPost_ret (v := .tuple #[.agg #[.int .i64 0, .int .i64 0, .int .i64 0, .int .u16 0, .int .u16 0, .int .u16 0, .slice none 0 0, .slice none 0 0, .int .i64 0, .int .i64 0, .int .i64 0, .int .i64 0], .int .i64 1]) (by simp [results, Try.results11, go_sem]) rfl ⟨rfl, (Below.refl _ _).alloc (Nat.le_refl _) _⟩

set_option maxHeartbeats 1000000 in
theorem pparse_refused (A : Option Addr) (n c : Nat) (zs : List Int) (f : Int) (w : World) (hr : Row .u8 w w.heap.size A n zs) (hx : Bytes8 zs) (hn : n ≤ 253) (h1 : 1 ≤ n) (h0 : zs.getD 0 0 = f) (x : Int) (hx0 : ¬ x = 0) (href : (∀ W, Row .u8 W W.heap.size A n zs → Calls Try.prog 22 #[.slice A n c] W fun e w' => e = .returned (.int .i64 x) ∧ W = w')) :
    Calls Try.prog 11 #[.slice A n c] w (ParsedNo f x w) := by
  have HF := Lib.hid href
  clear href
  obtain ⟨b, off, rfl, hb, hcell⟩ := hr.2 (by omega)
  have hbq := hx.at_ 0
  change 0 ≤ zs.getD 0 0 ∧ zs.getD 0 0 ≤ 255 at hbq
  rw [h0] at hbq
  have f0 := hbq.1
  have f1 := hbq.2
  have hc0 : (w.alloc (.cells #[.int .i64 0, .int .i64 0, .int .i64 0, .int .u16 0, .int .u16 0, .int .u16 0, .slice none 0 0, .slice none 0 0, .int .i64 0, .int .i64 0, .int .i64 0, .int .i64 0] 30)).cell? ⟨b, off, none⟩ = some (.int .u8 f) := by
    rw [World.cell?_alloc_lt w _ ⟨b, off, none⟩ hb]
    have := hcell 0 (by omega)
    rw [Nat.add_zero, h0] at this
    exact this
  have hn0 : (0 : Int) < (n : Int) := by omega
  have hn1 : ¬ (n : Int) = 0 := by omega
  have hn2 : ¬ (253 : Int) < (n : Int) := by omega
  have hk1 : Below w.heap.size w (w.alloc (.cells #[.int .i64 0, .int .i64 0, .int .i64 0, .int .u16 0, .int .u16 0, .int .u16 0, .slice none 0 0, .slice none 0 0, .int .i64 0, .int .i64 0, .int .i64 0, .int .i64 0] 30)) := (Below.refl _ _).alloc (Nat.le_refl _) _
  have HR := Lib.hid ((hr.below hk1).more hk1.size)
  have HX := Lib.hid hx
  have HK1 := Lib.hid hk1
  have HG : Hid (WholeV (w.alloc (.cells #[.int .i64 0, .int .i64 0, .int .i64 0, .int .u16 0, .int .u16 0, .int .u16 0, .slice none 0 0, .slice none 0 0, .int .i64 0, .int .i64 0, .int .i64 0, .int .i64 0] 30)) w.heap.size 30 [.int .i64 0, .int .i64 0, .int .i64 0, .int .u16 0, .int .u16 0, .int .u16 0, .slice none 0 0, .slice none 0 0, .int .i64 0, .int .i64 0, .int .i64 0, .int .i64 0]) := heap_alloc_new w _
  clear hr hx hcell hbq hk1 h0
  go_enter Try.func11, Try.ntmps11
  go_wp2_with (go_at_call 22; refine (HF.out _ HR.out).mono ?_; rintro e w' ⟨rfl, rfl⟩)
  exact bodyPost_ret (v := .tuple #[.agg #[.int .i64 f, .int .i64 0, .int .i64 0, .int .u16 0, .int .u16 0, .int .u16 0, .slice none 0 0, .slice none 0 0, .int .i64 0, .int .i64 0, .int .i64 0, .int .i64 0], .int .i64 x]) (by simp [results, Try.results11, go_sem]) rfl ⟨rfl, (Below.refl _ _).alloc (Nat.le_refl _) _⟩

set_option maxHeartbeats 1000000 in
theorem pparse_none (A : Option Addr) (n c : Nat) (zs : List Int) (f : Int) (w : World) (hr : Row .u8 w w.heap.size A n zs) (hx : Bytes8 zs) (hn : n ≤ 253) (h1 : 1 ≤ n) (h0 : zs.getD 0 0 = f) (href : (∀ W, Row .u8 W W.heap.size A n zs → Calls Try.prog 22 #[.slice A n c] W fun e w' => e = .returned (.int .i64 0) ∧ W = w'))
    (hf : ∀ W, Below w.heap.size w W → Row .u8 W W.heap.size A n zs → Calls Try.prog 23 #[.slice A n c] W (FieldsNo W)) :
    Calls Try.prog 11 #[.slice A n c] w (ParsedNo f 3 w) := by
  have HF := Lib.hid href
  have HFD := Lib.hid hf
  clear href hf
  obtain ⟨b, off, rfl, hb, hcell⟩ := hr.2 (by omega)
  have hbq := hx.at_ 0
  change 0 ≤ zs.getD 0 0 ∧ zs.getD 0 0 ≤ 255 at hbq
  rw [h0] at hbq
  have f0 := hbq.1
  have f1 := hbq.2
  have hc0 : (w.alloc (.cells #[.int .i64 0, .int .i64 0, .int .i64 0, .int .u16 0, .int .u16 0, .int .u16 0, .slice none 0 0, .slice none 0 0, .int .i64 0, .int .i64 0, .int .i64 0, .int .i64 0] 30)).cell? ⟨b, off, none⟩ = some (.int .u8 f) := by
    rw [World.cell?_alloc_lt w _ ⟨b, off, none⟩ hb]
    have := hcell 0 (by omega)
    rw [Nat.add_zero, h0] at this
    exact this
  have hn0 : (0 : Int) < (n : Int) := by omega
  have hn1 : ¬ (n : Int) = 0 := by omega
  have hn2 : ¬ (253 : Int) < (n : Int) := by omega
  have hk1 : Below w.heap.size w (w.alloc (.cells #[.int .i64 0, .int .i64 0, .int .i64 0, .int .u16 0, .int .u16 0, .int .u16 0, .slice none 0 0, .slice none 0 0, .int .i64 0, .int .i64 0, .int .i64 0, .int .i64 0] 30)) := (Below.refl _ _).alloc (Nat.le_refl _) _
  have HR := Lib.hid ((hr.below hk1).more hk1.size)
  have HX := Lib.hid hx
  have HK1 := Lib.hid hk1
  have HG : Hid (WholeV (w.alloc (.cells #[.int .i64 0, .int .i64 0, .int .i64 0, .int .u16 0, .int .u16 0, .int .u16 0, .slice none 0 0, .slice none 0 0, .int .i64 0, .int .i64 0, .int .i64 0, .int .i64 0] 30)) w.heap.size 30 [.int .i64 0, .int .i64 0, .int .i64 0, .int .u16 0, .int .u16 0, .int .u16 0, .slice none 0 0, .slice none 0 0, .int .i64 0, .int .i64 0, .int .i64 0, .int .i64 0]) := heap_alloc_new w _
  clear hr hx hcell hbq hk1 h0
  go_enter Try.func11, Try.ntmps11
  go_wp2_with (first
    | (go_at_call 22; refine (HF.out _ HR.out).mono ?_; rintro e w' ⟨rfl, rfl⟩)
    | (go_at_call 23
       refine (HFD.out _ HK1.out HR.out).mono ?_
       rintro e w5 ⟨fn, at_, nn, v, an, orr, bl, wl, ra, rn, co, ob, BA, WA, bc, wc, rfl, hb5⟩
       have h0 := HG.out.below hb5 HG.out.lt
       have HB5 : Hid (Below w.heap.size w w5) := HK1.out.trans (hb5.mono (by simp))
       have hz5 : w.heap.size + 1 ≤ w5.heap.size := h0.lt
       obtain ⟨hp0, hp1, hp2, hp3, hp4, hp5, hp6, hp7, hp8, hp9, hp10, hp11⟩ := cells12 h0
       have hg0 := h0.frozen 0
       have hg1 := h0.frozen 1
       have hg2 := h0.frozen 2
       have hg3 := h0.frozen 3
       have hg4 := h0.frozen 4
       have hg5 := h0.frozen 5
       have hg6 := h0.frozen 6
       have hg7 := h0.frozen 7
       have hg8 := h0.frozen 8
       have hg9 := h0.frozen 9
       have hg10 := h0.frozen 10
       have hg11 := h0.frozen 11
       have HH0 := Lib.hid h0
       have h0a := h0.below ((Below.refl _ _).alloc (Nat.le_refl _) (.cells #[.int .i64 fn, .int .i64 at_, .int .i64 nn, .int .u16 v, .int .u16 an, .int .u16 orr, .slice BA bl bc, .slice WA wl wc, .int .i64 ra, .int .i64 rn, .int .i64 co, .int .i64 ob] 30)) h0.lt
       obtain ⟨ha0, ha1, ha2, ha3, ha4, ha5, ha6, ha7, ha8, ha9, ha10, ha11⟩ := cells12 h0a
       have hb0_ := h0a.frozen 0
       have hb1_ := h0a.frozen 1
       have hb2_ := h0a.frozen 2
       have hb3_ := h0a.frozen 3
       have hb4_ := h0a.frozen 4
       have hb5_ := h0a.frozen 5
       have hb6_ := h0a.frozen 6
       have hb7_ := h0a.frozen 7
       have hb8_ := h0a.frozen 8
       have hb9_ := h0a.frozen 9
       have hb10_ := h0a.frozen 10
       have hb11_ := h0a.frozen 11
       clear h0 hb5 h0a))
  obtain ⟨X, hX⟩ : ∃ X, w5.alloc (.cells #[.int .i64 fn, .int .i64 at_, .int .i64 nn, .int .u16 v, .int .u16 an, .int .u16 orr, .slice BA bl bc, .slice WA wl wc, .int .i64 ra, .int .i64 rn, .int .i64 co, .int .i64 ob] 30) = X := ⟨_, rfl⟩
  have hxk : Below w5.heap.size w5 X := by rw [← hX]; exact (Below.refl _ _).alloc (Nat.le_refl _) _
  have hx0 : WholeV X w.heap.size 30 [.int .i64 0, .int .i64 0, .int .i64 0, .int .u16 0, .int .u16 0, .int .u16 0, .slice none 0 0, .slice none 0 0, .int .i64 0, .int .i64 0, .int .i64 0, .int .i64 0] := HH0.out.below hxk (by omega)
  have hxb : Below w.heap.size w X := HB5.out.trans (hxk.mono HB5.out.size)
  rw [hX]
  obtain ⟨w9, hw9⟩ : ∃ w9, ((((((((((((X.setCell ⟨w.heap.size, 0, none⟩ (.int .i64 f)).setCell ⟨w.heap.size, 1, none⟩ (.int .i64 0)).setCell ⟨w.heap.size, 2, none⟩ (.int .i64 0)).setCell ⟨w.heap.size, 3, none⟩ (.int .u16 0)).setCell ⟨w.heap.size, 4, none⟩ (.int .u16 0)).setCell ⟨w.heap.size, 5, none⟩ (.int .u16 0)).setCell ⟨w.heap.size, 6, none⟩ (.slice none 0 0)).setCell ⟨w.heap.size, 7, none⟩ (.slice none 0 0)).setCell ⟨w.heap.size, 8, none⟩ (.int .i64 0)).setCell ⟨w.heap.size, 9, none⟩ (.int .i64 0)).setCell ⟨w.heap.size, 10, none⟩ (.int .i64 0)).setCell ⟨w.heap.size, 11, none⟩ (.int .i64 0)) = w9 := ⟨_, rfl⟩
  have hwh := all12 hx0 (.int .i64 f) (.int .i64 0) (.int .i64 0) (.int .u16 0) (.int .u16 0) (.int .u16 0) (.slice none 0 0) (.slice none 0 0) (.int .i64 0) (.int .i64 0) (.int .i64 0) (.int .i64 0) rfl
  have hbb := bel12 hxb (.int .i64 f) (.int .i64 0) (.int .i64 0) (.int .u16 0) (.int .u16 0) (.int .u16 0) (.slice none 0 0) (.slice none 0 0) (.int .i64 0) (.int .i64 0) (.int .i64 0) (.int .i64 0)
  rw [hw9] at hwh hbb
  rw [hw9]
  obtain ⟨he0, he1, he2, he3, he4, he5, he6, he7, he8, he9, he10, he11⟩ := cells12 hwh
  exact bodyPost_ret (v := .tuple #[.agg #[.int .i64 f, .int .i64 0, .int .i64 0, .int .u16 0, .int .u16 0, .int .u16 0, .slice none 0 0, .slice none 0 0, .int .i64 0, .int .i64 0, .int .i64 0, .int .i64 0], .int .i64 3]) (by simp [results, Try.results11, go_sem, he0, he1, he2, he3, he4, he5, he6, he7, he8, he9, he10, he11]) rfl ⟨rfl, hbb⟩

set_option maxHeartbeats 1000000 in
theorem pparse_wrong (A : Option Addr) (n c : Nat) (zs : List Int) (f : Int) (w : World) (hr : Row .u8 w w.heap.size A n zs) (hx : Bytes8 zs) (hn : n ≤ 253) (h1 : 1 ≤ n) (h0 : zs.getD 0 0 = f) (href : (∀ W, Row .u8 W W.heap.size A n zs → Calls Try.prog 22 #[.slice A n c] W fun e w' => e = .returned (.int .i64 0) ∧ W = w'))
    (fn at_ nn v an orr : Int) (bl wl : Nat) (ra rn co ob : Int) (bs : List Bool) (ws : List Int) (hwd : Wide at_ nn v an orr ra rn co ob) (hrt : ¬ rightP fn at_ nn v an orr bl wl ra rn co ob)
    (hf : ∀ W, Below w.heap.size w W → Row .u8 W W.heap.size A n zs → Calls Try.prog 23 #[.slice A n c] W (FieldsYes fn at_ nn v an orr bl wl ra rn co ob bs ws W)) :
    Calls Try.prog 11 #[.slice A n c] w (ParsedNo f 3 w) := by
  have HF := Lib.hid href
  have HFD := Lib.hid hf
  have HWd := Lib.hid hwd
  have HRt := Lib.hid hrt
  clear href hf hwd hrt
  obtain ⟨b, off, rfl, hb, hcell⟩ := hr.2 (by omega)
  have hbq := hx.at_ 0
  change 0 ≤ zs.getD 0 0 ∧ zs.getD 0 0 ≤ 255 at hbq
  rw [h0] at hbq
  have f0 := hbq.1
  have f1 := hbq.2
  have hc0 : (w.alloc (.cells #[.int .i64 0, .int .i64 0, .int .i64 0, .int .u16 0, .int .u16 0, .int .u16 0, .slice none 0 0, .slice none 0 0, .int .i64 0, .int .i64 0, .int .i64 0, .int .i64 0] 30)).cell? ⟨b, off, none⟩ = some (.int .u8 f) := by
    rw [World.cell?_alloc_lt w _ ⟨b, off, none⟩ hb]
    have := hcell 0 (by omega)
    rw [Nat.add_zero, h0] at this
    exact this
  have hn0 : (0 : Int) < (n : Int) := by omega
  have hn1 : ¬ (n : Int) = 0 := by omega
  have hn2 : ¬ (253 : Int) < (n : Int) := by omega
  have hk1 : Below w.heap.size w (w.alloc (.cells #[.int .i64 0, .int .i64 0, .int .i64 0, .int .u16 0, .int .u16 0, .int .u16 0, .slice none 0 0, .slice none 0 0, .int .i64 0, .int .i64 0, .int .i64 0, .int .i64 0] 30)) := (Below.refl _ _).alloc (Nat.le_refl _) _
  have HR := Lib.hid ((hr.below hk1).more hk1.size)
  have HX := Lib.hid hx
  have HK1 := Lib.hid hk1
  have HG : Hid (WholeV (w.alloc (.cells #[.int .i64 0, .int .i64 0, .int .i64 0, .int .u16 0, .int .u16 0, .int .u16 0, .slice none 0 0, .slice none 0 0, .int .i64 0, .int .i64 0, .int .i64 0, .int .i64 0] 30)) w.heap.size 30 [.int .i64 0, .int .i64 0, .int .i64 0, .int .u16 0, .int .u16 0, .int .u16 0, .slice none 0 0, .slice none 0 0, .int .i64 0, .int .i64 0, .int .i64 0, .int .i64 0]) := heap_alloc_new w _
  clear hr hx hcell hbq hk1 h0
  go_enter Try.func11, Try.ntmps11
  go_wp2_with (first
    | (go_at_call 22; refine (HF.out _ HR.out).mono ?_; rintro e w' ⟨rfl, rfl⟩)
    | (go_at_call 23
       refine (HFD.out _ HK1.out HR.out).mono ?_
       rintro e w5 ⟨BA, WA, bc, wc, rfl, hob, how, hb5⟩
       have h0 := HG.out.below hb5 HG.out.lt
       have HB5 : Hid (Below w.heap.size w w5) := HK1.out.trans (hb5.mono (by simp))
       have hz5 : w.heap.size + 1 ≤ w5.heap.size := h0.lt
       obtain ⟨hp0, hp1, hp2, hp3, hp4, hp5, hp6, hp7, hp8, hp9, hp10, hp11⟩ := cells12 h0
       have hg0 := h0.frozen 0
       have hg1 := h0.frozen 1
       have hg2 := h0.frozen 2
       have hg3 := h0.frozen 3
       have hg4 := h0.frozen 4
       have hg5 := h0.frozen 5
       have hg6 := h0.frozen 6
       have hg7 := h0.frozen 7
       have hg8 := h0.frozen 8
       have hg9 := h0.frozen 9
       have hg10 := h0.frozen 10
       have hg11 := h0.frozen 11
       have HH0 := Lib.hid h0
       have HOB := Lib.hid hob
       have HOW := Lib.hid how
       clear h0 hb5 hob how)
    | (go_at_call 19
       (with_reducible refine (pright_no fn at_ nn v an orr bl wl ra rn co ob BA WA bc wc _ HWd.out HRt.out).mono ?_)
       rintro e w6 ⟨rfl, hb6⟩
       have hs5 : (w5.alloc (.cells #[.int .i64 fn, .int .i64 at_, .int .i64 nn, .int .u16 v, .int .u16 an, .int .u16 orr, .slice BA bl bc, .slice WA wl wc, .int .i64 ra, .int .i64 rn, .int .i64 co, .int .i64 ob] 30)).heap.size = w5.heap.size + 1 := by simp
       have hx5 : Below w5.heap.size w5 (w5.alloc (.cells #[.int .i64 fn, .int .i64 at_, .int .i64 nn, .int .u16 v, .int .u16 an, .int .u16 orr, .slice BA bl bc, .slice WA wl wc, .int .i64 ra, .int .i64 rn, .int .i64 co, .int .i64 ob] 30)) := (Below.refl _ _).alloc (Nat.le_refl _) _
       have hb6' : Below w5.heap.size w5 w6 := hx5.trans (hb6.mono hx5.size)
       have h0 := HH0.out.below hb6' (by omega)
       have h1 : WholeV (w5.alloc (.cells #[.int .i64 fn, .int .i64 at_, .int .i64 nn, .int .u16 v, .int .u16 an, .int .u16 orr, .slice BA bl bc, .slice WA wl wc, .int .i64 ra, .int .i64 rn, .int .i64 co, .int .i64 ob] 30)) w5.heap.size 30 [.int .i64 fn, .int .i64 at_, .int .i64 nn, .int .u16 v, .int .u16 an, .int .u16 orr, .slice BA bl bc, .slice WA wl wc, .int .i64 ra, .int .i64 rn, .int .i64 co, .int .i64 ob] := heap_alloc_new w5 _
       have h6 := h1.below hb6 h1.lt
       obtain ⟨hq0, hq1, hq2, hq3, hq4, hq5, hq6, hq7, hq8, hq9, hq10, hq11⟩ := cells12 h6
       obtain ⟨hs0, hs1, hs2, hs3, hs4, hs5, hs6, hs7, hs8, hs9, hs10, hs11⟩ := cells12 h0
       have hh0 := h0.frozen 0
       have hh1 := h0.frozen 1
       have hh2 := h0.frozen 2
       have hh3 := h0.frozen 3
       have hh4 := h0.frozen 4
       have hh5 := h0.frozen 5
       have hh6 := h0.frozen 6
       have hh7 := h0.frozen 7
       have hh8 := h0.frozen 8
       have hh9 := h0.frozen 9
       have hh10 := h0.frozen 10
       have hh11 := h0.frozen 11
       have HB6 : Hid (Below w.heap.size w w6) := HB5.out.trans (hb6'.mono HB5.out.size)
       have hz6 : w.heap.size + 1 ≤ w6.heap.size := h0.lt
       have HH6 := Lib.hid h0
       have HC6 := Lib.hid hb6'
       clear h0 h1 h6 hx5 hb6 hb6'))
  obtain ⟨w9, hw9⟩ : ∃ w9, ((((((((((((w6.setCell ⟨w.heap.size, 0, none⟩ (.int .i64 f)).setCell ⟨w.heap.size, 1, none⟩ (.int .i64 0)).setCell ⟨w.heap.size, 2, none⟩ (.int .i64 0)).setCell ⟨w.heap.size, 3, none⟩ (.int .u16 0)).setCell ⟨w.heap.size, 4, none⟩ (.int .u16 0)).setCell ⟨w.heap.size, 5, none⟩ (.int .u16 0)).setCell ⟨w.heap.size, 6, none⟩ (.slice none 0 0)).setCell ⟨w.heap.size, 7, none⟩ (.slice none 0 0)).setCell ⟨w.heap.size, 8, none⟩ (.int .i64 0)).setCell ⟨w.heap.size, 9, none⟩ (.int .i64 0)).setCell ⟨w.heap.size, 10, none⟩ (.int .i64 0)).setCell ⟨w.heap.size, 11, none⟩ (.int .i64 0)) = w9 := ⟨_, rfl⟩
  have hwh := all12 HH6.out (.int .i64 f) (.int .i64 0) (.int .i64 0) (.int .u16 0) (.int .u16 0) (.int .u16 0) (.slice none 0 0) (.slice none 0 0) (.int .i64 0) (.int .i64 0) (.int .i64 0) (.int .i64 0) rfl
  have hbb := bel12 HB6.out (.int .i64 f) (.int .i64 0) (.int .i64 0) (.int .u16 0) (.int .u16 0) (.int .u16 0) (.slice none 0 0) (.slice none 0 0) (.int .i64 0) (.int .i64 0) (.int .i64 0) (.int .i64 0)
  rw [hw9] at hwh hbb
  rw [hw9]
  obtain ⟨he0, he1, he2, he3, he4, he5, he6, he7, he8, he9, he10, he11⟩ := cells12 hwh
  exact bodyPost_ret (v := .tuple #[.agg #[.int .i64 f, .int .i64 0, .int .i64 0, .int .u16 0, .int .u16 0, .int .u16 0, .slice none 0 0, .slice none 0 0, .int .i64 0, .int .i64 0, .int .i64 0, .int .i64 0], .int .i64 3]) (by simp [results, Try.results11, go_sem, he0, he1, he2, he3, he4, he5, he6, he7, he8, he9, he10, he11]) rfl ⟨rfl, hbb⟩

set_option maxHeartbeats 1000000 in
theorem pparse_ok (A : Option Addr) (n c : Nat) (zs : List Int) (f : Int) (w : World) (hr : Row .u8 w w.heap.size A n zs) (hx : Bytes8 zs) (hn : n ≤ 253) (h1 : 1 ≤ n) (h0 : zs.getD 0 0 = f) (href : (∀ W, Row .u8 W W.heap.size A n zs → Calls Try.prog 22 #[.slice A n c] W fun e w' => e = .returned (.int .i64 0) ∧ W = w'))
    (fn at_ nn v an orr : Int) (bl wl : Nat) (ra rn co ob : Int) (bs : List Bool) (ws : List Int) (hwd : Wide at_ nn v an orr ra rn co ob) (hrt : rightP fn at_ nn v an orr bl wl ra rn co ob)
    (hf : ∀ W, Below w.heap.size w W → Row .u8 W W.heap.size A n zs → Calls Try.prog 23 #[.slice A n c] W (FieldsYes fn at_ nn v an orr bl wl ra rn co ob bs ws W)) :
    Calls Try.prog 11 #[.slice A n c] w (ParsedYes fn at_ nn v an orr bl wl ra rn co ob bs ws w) := by
  have HF := Lib.hid href
  have HFD := Lib.hid hf
  have HWd := Lib.hid hwd
  have HRt := Lib.hid hrt
  clear href hf hwd hrt
  obtain ⟨b, off, rfl, hb, hcell⟩ := hr.2 (by omega)
  have hbq := hx.at_ 0
  change 0 ≤ zs.getD 0 0 ∧ zs.getD 0 0 ≤ 255 at hbq
  rw [h0] at hbq
  have f0 := hbq.1
  have f1 := hbq.2
  have hc0 : (w.alloc (.cells #[.int .i64 0, .int .i64 0, .int .i64 0, .int .u16 0, .int .u16 0, .int .u16 0, .slice none 0 0, .slice none 0 0, .int .i64 0, .int .i64 0, .int .i64 0, .int .i64 0] 30)).cell? ⟨b, off, none⟩ = some (.int .u8 f) := by
    rw [World.cell?_alloc_lt w _ ⟨b, off, none⟩ hb]
    have := hcell 0 (by omega)
    rw [Nat.add_zero, h0] at this
    exact this
  have hn0 : (0 : Int) < (n : Int) := by omega
  have hn1 : ¬ (n : Int) = 0 := by omega
  have hn2 : ¬ (253 : Int) < (n : Int) := by omega
  have hk1 : Below w.heap.size w (w.alloc (.cells #[.int .i64 0, .int .i64 0, .int .i64 0, .int .u16 0, .int .u16 0, .int .u16 0, .slice none 0 0, .slice none 0 0, .int .i64 0, .int .i64 0, .int .i64 0, .int .i64 0] 30)) := (Below.refl _ _).alloc (Nat.le_refl _) _
  have HR := Lib.hid ((hr.below hk1).more hk1.size)
  have HX := Lib.hid hx
  have HK1 := Lib.hid hk1
  have HG : Hid (WholeV (w.alloc (.cells #[.int .i64 0, .int .i64 0, .int .i64 0, .int .u16 0, .int .u16 0, .int .u16 0, .slice none 0 0, .slice none 0 0, .int .i64 0, .int .i64 0, .int .i64 0, .int .i64 0] 30)) w.heap.size 30 [.int .i64 0, .int .i64 0, .int .i64 0, .int .u16 0, .int .u16 0, .int .u16 0, .slice none 0 0, .slice none 0 0, .int .i64 0, .int .i64 0, .int .i64 0, .int .i64 0]) := heap_alloc_new w _
  clear hr hx hcell hbq hk1 h0
  go_enter Try.func11, Try.ntmps11
  go_wp2_with (first
    | (go_at_call 22; refine (HF.out _ HR.out).mono ?_; rintro e w' ⟨rfl, rfl⟩)
    | (go_at_call 23
       refine (HFD.out _ HK1.out HR.out).mono ?_
       rintro e w5 ⟨BA, WA, bc, wc, rfl, hob, how, hb5⟩
       have h0 := HG.out.below hb5 HG.out.lt
       have HB5 : Hid (Below w.heap.size w w5) := HK1.out.trans (hb5.mono (by simp))
       have hz5 : w.heap.size + 1 ≤ w5.heap.size := h0.lt
       obtain ⟨hp0, hp1, hp2, hp3, hp4, hp5, hp6, hp7, hp8, hp9, hp10, hp11⟩ := cells12 h0
       have hg0 := h0.frozen 0
       have hg1 := h0.frozen 1
       have hg2 := h0.frozen 2
       have hg3 := h0.frozen 3
       have hg4 := h0.frozen 4
       have hg5 := h0.frozen 5
       have hg6 := h0.frozen 6
       have hg7 := h0.frozen 7
       have hg8 := h0.frozen 8
       have hg9 := h0.frozen 9
       have hg10 := h0.frozen 10
       have hg11 := h0.frozen 11
       have HH0 := Lib.hid h0
       have HOB := Lib.hid hob
       have HOW := Lib.hid how
       clear h0 hb5 hob how)
    | (go_at_call 19
       (with_reducible refine (pright_yes fn at_ nn v an orr bl wl ra rn co ob BA WA bc wc _ HWd.out HRt.out).mono ?_)
       rintro e w6 ⟨rfl, hb6⟩
       have hs5 : (w5.alloc (.cells #[.int .i64 fn, .int .i64 at_, .int .i64 nn, .int .u16 v, .int .u16 an, .int .u16 orr, .slice BA bl bc, .slice WA wl wc, .int .i64 ra, .int .i64 rn, .int .i64 co, .int .i64 ob] 30)).heap.size = w5.heap.size + 1 := by simp
       have hx5 : Below w5.heap.size w5 (w5.alloc (.cells #[.int .i64 fn, .int .i64 at_, .int .i64 nn, .int .u16 v, .int .u16 an, .int .u16 orr, .slice BA bl bc, .slice WA wl wc, .int .i64 ra, .int .i64 rn, .int .i64 co, .int .i64 ob] 30)) := (Below.refl _ _).alloc (Nat.le_refl _) _
       have hb6' : Below w5.heap.size w5 w6 := hx5.trans (hb6.mono hx5.size)
       have h0 := HH0.out.below hb6' (by omega)
       have h1 : WholeV (w5.alloc (.cells #[.int .i64 fn, .int .i64 at_, .int .i64 nn, .int .u16 v, .int .u16 an, .int .u16 orr, .slice BA bl bc, .slice WA wl wc, .int .i64 ra, .int .i64 rn, .int .i64 co, .int .i64 ob] 30)) w5.heap.size 30 [.int .i64 fn, .int .i64 at_, .int .i64 nn, .int .u16 v, .int .u16 an, .int .u16 orr, .slice BA bl bc, .slice WA wl wc, .int .i64 ra, .int .i64 rn, .int .i64 co, .int .i64 ob] := heap_alloc_new w5 _
       have h6 := h1.below hb6 h1.lt
       obtain ⟨hq0, hq1, hq2, hq3, hq4, hq5, hq6, hq7, hq8, hq9, hq10, hq11⟩ := cells12 h6
       obtain ⟨hs0, hs1, hs2, hs3, hs4, hs5, hs6, hs7, hs8, hs9, hs10, hs11⟩ := cells12 h0
       have hh0 := h0.frozen 0
       have hh1 := h0.frozen 1
       have hh2 := h0.frozen 2
       have hh3 := h0.frozen 3
       have hh4 := h0.frozen 4
       have hh5 := h0.frozen 5
       have hh6 := h0.frozen 6
       have hh7 := h0.frozen 7
       have hh8 := h0.frozen 8
       have hh9 := h0.frozen 9
       have hh10 := h0.frozen 10
       have hh11 := h0.frozen 11
       have HB6 : Hid (Below w.heap.size w w6) := HB5.out.trans (hb6'.mono HB5.out.size)
       have hz6 : w.heap.size + 1 ≤ w6.heap.size := h0.lt
       have HH6 := Lib.hid h0
       have HC6 := Lib.hid hb6'
       clear h0 h1 h6 hx5 hb6 hb6'))
  obtain ⟨w9, hw9⟩ : ∃ w9, ((((((((((((w6.setCell ⟨w.heap.size, 0, none⟩ (.int .i64 fn)).setCell ⟨w.heap.size, 1, none⟩ (.int .i64 at_)).setCell ⟨w.heap.size, 2, none⟩ (.int .i64 nn)).setCell ⟨w.heap.size, 3, none⟩ (.int .u16 v)).setCell ⟨w.heap.size, 4, none⟩ (.int .u16 an)).setCell ⟨w.heap.size, 5, none⟩ (.int .u16 orr)).setCell ⟨w.heap.size, 6, none⟩ (.slice BA bl bc)).setCell ⟨w.heap.size, 7, none⟩ (.slice WA wl wc)).setCell ⟨w.heap.size, 8, none⟩ (.int .i64 ra)).setCell ⟨w.heap.size, 9, none⟩ (.int .i64 rn)).setCell ⟨w.heap.size, 10, none⟩ (.int .i64 co)).setCell ⟨w.heap.size, 11, none⟩ (.int .i64 ob)) = w9 := ⟨_, rfl⟩
  have hwh := all12 HH6.out (.int .i64 fn) (.int .i64 at_) (.int .i64 nn) (.int .u16 v) (.int .u16 an) (.int .u16 orr) (.slice BA bl bc) (.slice WA wl wc) (.int .i64 ra) (.int .i64 rn) (.int .i64 co) (.int .i64 ob) rfl
  have hbb := bel12 HB6.out (.int .i64 fn) (.int .i64 at_) (.int .i64 nn) (.int .u16 v) (.int .u16 an) (.int .u16 orr) (.slice BA bl bc) (.slice WA wl wc) (.int .i64 ra) (.int .i64 rn) (.int .i64 co) (.int .i64 ob)
  have hob : w6.ownsRow (w.heap.size + 1) 4 1 (.slice BA bl bc) bl (bs.map Value.bool) := own_keep (own_mono HOB.out (by simp)) HC6.out
  have how : w6.ownsRow (w.heap.size + 1) 26 1 (.slice WA wl wc) wl (ws.map (Value.int .u16)) := own_keep (own_mono HOW.out (by simp)) HC6.out
  have hob9 : w9.ownsRow (w.heap.size + 1) 4 1 (.slice BA bl bc) bl (bs.map Value.bool) := by rw [← hw9]; exact (own_far (own_far (own_far (own_far (own_far (own_far (own_far (own_far (own_far (own_far (own_far (own_far hob ⟨w.heap.size, 0, none⟩ (Nat.lt_succ_self _) (.int .i64 fn)) ⟨w.heap.size, 1, none⟩ (Nat.lt_succ_self _) (.int .i64 at_)) ⟨w.heap.size, 2, none⟩ (Nat.lt_succ_self _) (.int .i64 nn)) ⟨w.heap.size, 3, none⟩ (Nat.lt_succ_self _) (.int .u16 v)) ⟨w.heap.size, 4, none⟩ (Nat.lt_succ_self _) (.int .u16 an)) ⟨w.heap.size, 5, none⟩ (Nat.lt_succ_self _) (.int .u16 orr)) ⟨w.heap.size, 6, none⟩ (Nat.lt_succ_self _) (.slice BA bl bc)) ⟨w.heap.size, 7, none⟩ (Nat.lt_succ_self _) (.slice WA wl wc)) ⟨w.heap.size, 8, none⟩ (Nat.lt_succ_self _) (.int .i64 ra)) ⟨w.heap.size, 9, none⟩ (Nat.lt_succ_self _) (.int .i64 rn)) ⟨w.heap.size, 10, none⟩ (Nat.lt_succ_self _) (.int .i64 co)) ⟨w.heap.size, 11, none⟩ (Nat.lt_succ_self _) (.int .i64 ob))
  have how9 : w9.ownsRow (w.heap.size + 1) 26 1 (.slice WA wl wc) wl (ws.map (Value.int .u16)) := by rw [← hw9]; exact (own_far (own_far (own_far (own_far (own_far (own_far (own_far (own_far (own_far (own_far (own_far (own_far how ⟨w.heap.size, 0, none⟩ (Nat.lt_succ_self _) (.int .i64 fn)) ⟨w.heap.size, 1, none⟩ (Nat.lt_succ_self _) (.int .i64 at_)) ⟨w.heap.size, 2, none⟩ (Nat.lt_succ_self _) (.int .i64 nn)) ⟨w.heap.size, 3, none⟩ (Nat.lt_succ_self _) (.int .u16 v)) ⟨w.heap.size, 4, none⟩ (Nat.lt_succ_self _) (.int .u16 an)) ⟨w.heap.size, 5, none⟩ (Nat.lt_succ_self _) (.int .u16 orr)) ⟨w.heap.size, 6, none⟩ (Nat.lt_succ_self _) (.slice BA bl bc)) ⟨w.heap.size, 7, none⟩ (Nat.lt_succ_self _) (.slice WA wl wc)) ⟨w.heap.size, 8, none⟩ (Nat.lt_succ_self _) (.int .i64 ra)) ⟨w.heap.size, 9, none⟩ (Nat.lt_succ_self _) (.int .i64 rn)) ⟨w.heap.size, 10, none⟩ (Nat.lt_succ_self _) (.int .i64 co)) ⟨w.heap.size, 11, none⟩ (Nat.lt_succ_self _) (.int .i64 ob))
  rw [hw9] at hwh hbb
  rw [hw9]
  obtain ⟨he0, he1, he2, he3, he4, he5, he6, he7, he8, he9, he10, he11⟩ := cells12 hwh
  exact bodyPost_ret (v := .tuple #[.agg #[.int .i64 fn, .int .i64 at_, .int .i64 nn, .int .u16 v, .int .u16 an, .int .u16 orr, .slice BA bl bc, .slice WA wl wc, .int .i64 ra, .int .i64 rn, .int .i64 co, .int .i64 ob], .int .i64 0]) (by simp [results, Try.results11, go_sem, he0, he1, he2, he3, he4, he5, he6, he7, he8, he9, he10, he11]) rfl ⟨_, _, _, _, rfl, own_mono hob9 (Nat.le_succ _), own_mono how9 (Nat.le_succ _), hbb⟩

end Go.Proofs.Ytebpilfogdenjaa

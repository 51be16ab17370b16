/- Joined: PBad PB RParseX PB2 PB3 PB4. -/
import Derived.Test.YtokljdkbheogoaaJTellReads5
import Derived.Test.YtokljdkbheogoaaRParseT
import Derived.Test.YtokljdkbheogoaaJTellReads6
import Derived.Test.YtokljdkbheogoaaJTellReads9
import Derived.Test.YtokljdkbheogoaaAskList2
import Derived.Test.YtokljdkbheogoaaJTellReads8
import Derived.Test.YtokljdkbheogoaaJTellReads1
import Derived.Test.YtokljdkbheogoaaJTellReads2
import Derived.Test.YtokljdkbheogoaaJTellReads3
namespace Go.Proofs.Ytokljdkbheogoaa
open Go.ChangeShapes Go.WideShapes Go.ChangeAt Go.RowKit
set_option linter.unusedVariables false
set_option linter.unusedSimpArgs false

set_option maxRecDepth 100000 in
set_option maxHeartbeats 1000000 in
theorem pp_bad2 (A : Option Addr) (n c : Nat) (m : Int) (w : World) (fn ex : Int) (bl wl : Nat) (at_ q v an orr co le : Int) (mo : Bool) (nx : Int)
    (hF : ∀ W, Below w.heap.size w W → Calls Try.prog 38 #[.slice A n c, .int .i64 m] W fun e w' => ∃ BA bc WA wc OA ol oc, e = .returned (.tuple #[.agg #[.int .i64 fn, .int .i64 ex, .slice BA bl bc, .slice WA wl wc, .int .i64 at_, .int .i64 q, .int .u16 v, .int .u16 an, .int .u16 orr, .int .i64 co, .int .i64 le, .bool mo, .int .i64 nx, .slice OA ol oc], .bool false]) ∧ Below W.heap.size W w') :
    Calls Try.prog 12 #[.slice A n c, .int .i64 m] w fun e w' => e = .returned (.tuple #[.agg #[.int .i64 0, .int .i64 0, .slice none 0 0, .slice none 0 0, .int .i64 0, .int .i64 0, .int .u16 0, .int .u16 0, .int .u16 0, .int .i64 0, .int .i64 0, .bool false, .int .i64 0, .slice none 0 0], .int .i64 2]) ∧ Below w.heap.size w w' := by
  have HF := Lib.hid hF
  clear hF
  go_enter Try.func12, Try.ntmps12
  go_wp2_with (first
    | (go_at_call 38
       refine (HF.out _ ((Below.refl _ _).alloc (Nat.le_refl _) _)).mono ?_
       rintro e w1 ⟨BA, bc, WA, wc, OA, ol, oc, rfl, hb1⟩
       have hk1 : Below (w.heap.size + 1) (w.alloc (.cells #[.int .i64 0, .int .i64 0, .slice none 0 0, .slice none 0 0, .int .i64 0, .int .i64 0, .int .u16 0, .int .u16 0, .int .u16 0, .int .i64 0, .int .i64 0, .bool false, .int .i64 0, .slice none 0 0] 31)) w1 := by
         rwa [show (w.alloc (.cells #[.int .i64 0, .int .i64 0, .slice none 0 0, .slice none 0 0, .int .i64 0, .int .i64 0, .int .u16 0, .int .u16 0, .int .u16 0, .int .i64 0, .int .i64 0, .bool false, .int .i64 0, .slice none 0 0] 31)).heap.size = w.heap.size + 1 by simp] at hb1
       have h0 := box14 _ _ _ _ _ _ _ _ _ _ _ _ _ _ _ w w1 hk1
       have hz1 : w.heap.size < w1.heap.size := h0.lt
       have HB1 : Hid (Below w.heap.size w w1) := ((Below.refl _ _).alloc (Nat.le_refl _) _).trans (hb1.mono (by simp))
       have hk2 : Below w1.heap.size w1 (w1.alloc (.cells #[.int .i64 fn, .int .i64 ex, .slice BA bl bc, .slice WA wl wc, .int .i64 at_, .int .i64 q, .int .u16 v, .int .u16 an, .int .u16 orr, .int .i64 co, .int .i64 le, .bool mo, .int .i64 nx, .slice OA ol oc] 31)) := (Below.refl _ _).alloc (Nat.le_refl _) _
       have hg0 := h0.below hk2 hz1
       have HG0 := Lib.hid hg0
       have HK2 : Hid (Below w.heap.size w (w1.alloc (.cells #[.int .i64 fn, .int .i64 ex, .slice BA bl bc, .slice WA wl wc, .int .i64 at_, .int .i64 q, .int .u16 v, .int .u16 an, .int .u16 orr, .int .i64 co, .int .i64 le, .bool mo, .int .i64 nx, .slice OA ol oc] 31))) := HB1.out.trans (hk2.mono HB1.out.size)
       have H01 := Lib.hid h0
       obtain ⟨hq0, hq1, hq2, hq3, hq4, hq5, hq6, hq7, hq8, hq9, hq10, hq11, hq12, hq13⟩ := cells14 h0
       have hf0 := h0.frozen 0
       have hf1 := h0.frozen 1
       have hf2 := h0.frozen 2
       have hf3 := h0.frozen 3
       have hf4 := h0.frozen 4
       have hf5 := h0.frozen 5
       have hf6 := h0.frozen 6
       have hf7 := h0.frozen 7
       have hf8 := h0.frozen 8
       have hf9 := h0.frozen 9
       have hf10 := h0.frozen 10
       have hf11 := h0.frozen 11
       have hf12 := h0.frozen 12
       have hf13 := h0.frozen 13
       clear hb1 hk1 h0 hk2 hg0))
  obtain ⟨w9, hw9⟩ : ∃ w9, (((((((((((((((w1.setCell ⟨w.heap.size, 0, none⟩ (.int .i64 0)).setCell ⟨w.heap.size, 1, none⟩ (.int .i64 0)).setCell ⟨w.heap.size, 2, none⟩ (.slice none 0 0)).setCell ⟨w.heap.size, 3, none⟩ (.slice none 0 0)).setCell ⟨w.heap.size, 4, none⟩ (.int .i64 0)).setCell ⟨w.heap.size, 5, none⟩ (.int .i64 0)).setCell ⟨w.heap.size, 6, none⟩ (.int .u16 0)).setCell ⟨w.heap.size, 7, none⟩ (.int .u16 0)).setCell ⟨w.heap.size, 8, none⟩ (.int .u16 0)).setCell ⟨w.heap.size, 9, none⟩ (.int .i64 0)).setCell ⟨w.heap.size, 10, none⟩ (.int .i64 0)).setCell ⟨w.heap.size, 11, none⟩ (.bool false)).setCell ⟨w.heap.size, 12, none⟩ (.int .i64 0)).setCell ⟨w.heap.size, 13, none⟩ (.slice none 0 0))) = w9 := ⟨_, rfl⟩
  have hwh := all14 H01.out (.int .i64 0) (.int .i64 0) (.slice none 0 0) (.slice none 0 0) (.int .i64 0) (.int .i64 0) (.int .u16 0) (.int .u16 0) (.int .u16 0) (.int .i64 0) (.int .i64 0) (.bool false) (.int .i64 0) (.slice none 0 0) rfl
  have hbb := bel14 HB1.out (.int .i64 0) (.int .i64 0) (.slice none 0 0) (.slice none 0 0) (.int .i64 0) (.int .i64 0) (.int .u16 0) (.int .u16 0) (.int .u16 0) (.int .i64 0) (.int .i64 0) (.bool false) (.int .i64 0) (.slice none 0 0)
  rw [hw9] at hwh hbb
  rw [hw9]
  have hz9 : w.heap.size < w9.heap.size := hwh.lt
  obtain ⟨he0, he1, he2, he3, he4, he5, he6, he7, he8, he9, he10, he11, he12, he13⟩ := cells14 hwh
  exact bodyPost_ret (v := .tuple #[.agg #[.int .i64 0, .int .i64 0, .slice none 0 0, .slice none 0 0, .int .i64 0, .int .i64 0, .int .u16 0, .int .u16 0, .int .u16 0, .int .i64 0, .int .i64 0, .bool false, .int .i64 0, .slice none 0 0], .int .i64 2]) (by simp [results, Try.results12, go_sem, hz9, he0, he1, he2, he3, he4, he5, he6, he7, he8, he9, he10, he11, he12, he13]) rfl ⟨rfl, hbb.alloc hbb.size _⟩

set_option maxRecDepth 100000 in
set_option maxHeartbeats 1000000 in
theorem rp_bad2 (b off n c : Nat) (m f : Int) (w : World) (hb : b < w.heap.size) (hcell : w.cell? ⟨b, off, none⟩ = some (.int .u8 f)) (hn1 : 1 ≤ n) (hf : f < 128) (fn ex : Int) (bl wl : Nat) (at_ q v an orr co le : Int) (mo : Bool) (nx : Int)
    (hF : ∀ W, Below w.heap.size w W → Calls Try.prog 40 #[.slice (some ⟨b, off, none⟩) n c, .int .i64 m] W fun e w' => ∃ BA bc WA wc OA ol oc, e = .returned (.tuple #[.agg #[.int .i64 fn, .int .i64 ex, .slice BA bl bc, .slice WA wl wc, .int .i64 at_, .int .i64 q, .int .u16 v, .int .u16 an, .int .u16 orr, .int .i64 co, .int .i64 le, .bool mo, .int .i64 nx, .slice OA ol oc], .bool false]) ∧ Below W.heap.size W w') :
    Calls Try.prog 13 #[.slice (some ⟨b, off, none⟩) n c, .int .i64 m] w fun e w' => e = .returned (.tuple #[.agg #[.int .i64 0, .int .i64 0, .slice none 0 0, .slice none 0 0, .int .i64 0, .int .i64 0, .int .u16 0, .int .u16 0, .int .u16 0, .int .i64 0, .int .i64 0, .bool false, .int .i64 0, .slice none 0 0], .int .i64 2]) ∧ Below w.heap.size w w' := by
  have HF := Lib.hid hF
  clear hF
  have hc0 : (w.alloc (.cells #[.int .i64 0, .int .i64 0, .slice none 0 0, .slice none 0 0, .int .i64 0, .int .i64 0, .int .u16 0, .int .u16 0, .int .u16 0, .int .i64 0, .int .i64 0, .bool false, .int .i64 0, .slice none 0 0] 31)).cell? ⟨b, off, none⟩ = some (.int .u8 f) := (World.cell?_alloc_lt w _ ⟨b, off, none⟩ hb).trans hcell
  have hn0 : (0 : Int) < (n : Int) := by omega
  have hn00 : ((n : Int) == 0) = false := beq_eq_false_iff_ne.2 (by omega)
  have hf8 : ¬ (128 : Int) ≤ f := by omega
  clear hcell
  go_enter Try.func13, Try.ntmps13
  go_wp2_with (first
    | (go_at_call 40
       refine (HF.out _ ((Below.refl _ _).alloc (Nat.le_refl _) _)).mono ?_
       rintro e w1 ⟨BA, bc, WA, wc, OA, ol, oc, rfl, hb1⟩
       have hk1 : Below (w.heap.size + 1) (w.alloc (.cells #[.int .i64 0, .int .i64 0, .slice none 0 0, .slice none 0 0, .int .i64 0, .int .i64 0, .int .u16 0, .int .u16 0, .int .u16 0, .int .i64 0, .int .i64 0, .bool false, .int .i64 0, .slice none 0 0] 31)) w1 := by
         rwa [show (w.alloc (.cells #[.int .i64 0, .int .i64 0, .slice none 0 0, .slice none 0 0, .int .i64 0, .int .i64 0, .int .u16 0, .int .u16 0, .int .u16 0, .int .i64 0, .int .i64 0, .bool false, .int .i64 0, .slice none 0 0] 31)).heap.size = w.heap.size + 1 by simp] at hb1
       have h0 := box14 _ _ _ _ _ _ _ _ _ _ _ _ _ _ _ w w1 hk1
       have hz1 : w.heap.size < w1.heap.size := h0.lt
       have HB1 : Hid (Below w.heap.size w w1) := ((Below.refl _ _).alloc (Nat.le_refl _) _).trans (hb1.mono (by simp))
       have hk2 : Below w1.heap.size w1 (w1.alloc (.cells #[.int .i64 fn, .int .i64 ex, .slice BA bl bc, .slice WA wl wc, .int .i64 at_, .int .i64 q, .int .u16 v, .int .u16 an, .int .u16 orr, .int .i64 co, .int .i64 le, .bool mo, .int .i64 nx, .slice OA ol oc] 31)) := (Below.refl _ _).alloc (Nat.le_refl _) _
       have hg0 := h0.below hk2 hz1
       have HG0 := Lib.hid hg0
       have HK2 : Hid (Below w.heap.size w (w1.alloc (.cells #[.int .i64 fn, .int .i64 ex, .slice BA bl bc, .slice WA wl wc, .int .i64 at_, .int .i64 q, .int .u16 v, .int .u16 an, .int .u16 orr, .int .i64 co, .int .i64 le, .bool mo, .int .i64 nx, .slice OA ol oc] 31))) := HB1.out.trans (hk2.mono HB1.out.size)
       have H01 := Lib.hid h0
       obtain ⟨hq0, hq1, hq2, hq3, hq4, hq5, hq6, hq7, hq8, hq9, hq10, hq11, hq12, hq13⟩ := cells14 h0
       have hf0 := h0.frozen 0
       have hf1 := h0.frozen 1
       have hf2 := h0.frozen 2
       have hf3 := h0.frozen 3
       have hf4 := h0.frozen 4
       have hf5 := h0.frozen 5
       have hf6 := h0.frozen 6
       have hf7 := h0.frozen 7
       have hf8 := h0.frozen 8
       have hf9 := h0.frozen 9
       have hf10 := h0.frozen 10
       have hf11 := h0.frozen 11
       have hf12 := h0.frozen 12
       have hf13 := h0.frozen 13
       clear hb1 hk1 h0 hk2 hg0))
  obtain ⟨w9, hw9⟩ : ∃ w9, (((((((((((((((w1.setCell ⟨w.heap.size, 0, none⟩ (.int .i64 0)).setCell ⟨w.heap.size, 1, none⟩ (.int .i64 0)).setCell ⟨w.heap.size, 2, none⟩ (.slice none 0 0)).setCell ⟨w.heap.size, 3, none⟩ (.slice none 0 0)).setCell ⟨w.heap.size, 4, none⟩ (.int .i64 0)).setCell ⟨w.heap.size, 5, none⟩ (.int .i64 0)).setCell ⟨w.heap.size, 6, none⟩ (.int .u16 0)).setCell ⟨w.heap.size, 7, none⟩ (.int .u16 0)).setCell ⟨w.heap.size, 8, none⟩ (.int .u16 0)).setCell ⟨w.heap.size, 9, none⟩ (.int .i64 0)).setCell ⟨w.heap.size, 10, none⟩ (.int .i64 0)).setCell ⟨w.heap.size, 11, none⟩ (.bool false)).setCell ⟨w.heap.size, 12, none⟩ (.int .i64 0)).setCell ⟨w.heap.size, 13, none⟩ (.slice none 0 0))) = w9 := ⟨_, rfl⟩
  have hwh := all14 H01.out (.int .i64 0) (.int .i64 0) (.slice none 0 0) (.slice none 0 0) (.int .i64 0) (.int .i64 0) (.int .u16 0) (.int .u16 0) (.int .u16 0) (.int .i64 0) (.int .i64 0) (.bool false) (.int .i64 0) (.slice none 0 0) rfl
  have hbb := bel14 HB1.out (.int .i64 0) (.int .i64 0) (.slice none 0 0) (.slice none 0 0) (.int .i64 0) (.int .i64 0) (.int .u16 0) (.int .u16 0) (.int .u16 0) (.int .i64 0) (.int .i64 0) (.bool false) (.int .i64 0) (.slice none 0 0)
  rw [hw9] at hwh hbb
  rw [hw9]
  have hz9 : w.heap.size < w9.heap.size := hwh.lt
  obtain ⟨he0, he1, he2, he3, he4, he5, he6, he7, he8, he9, he10, he11, he12, he13⟩ := cells14 hwh
  exact bodyPost_ret (v := .tuple #[.agg #[.int .i64 0, .int .i64 0, .slice none 0 0, .slice none 0 0, .int .i64 0, .int .i64 0, .int .u16 0, .int .u16 0, .int .u16 0, .int .i64 0, .int .i64 0, .bool false, .int .i64 0, .slice none 0 0], .int .i64 2]) (by simp [results, Try.results13, go_sem, hz9, he0, he1, he2, he3, he4, he5, he6, he7, he8, he9, he10, he11, he12, he13]) rfl ⟨rfl, hbb.alloc hbb.size _⟩

/-- A reply's numbers and lists. -/
structure TV where
  fn : Int := 0
  ex : Int := 0
  bl : Nat := 0
  wl : Nat := 0
  at_ : Int := 0
  q : Int := 0
  v : Int := 0
  an : Int := 0
  orr : Int := 0
  co : Int := 0
  le : Int := 0
  mo : Bool := false
  nx : Int := 0
  ol : Nat := 0
  bs : List Bool := []
  ws : List Int := []
  os : List Ob := []
def TV.agg (t : TV) (BA : Option Addr) (bc : Nat) (WA : Option Addr) (wc : Nat) (OA : Option Addr) (oc : Nat) : Value := .agg #[.int .i64 t.fn, .int .i64 t.ex, .slice BA t.bl bc, .slice WA t.wl wc, .int .i64 t.at_, .int .i64 t.q, .int .u16 t.v, .int .u16 t.an, .int .u16 t.orr, .int .i64 t.co, .int .i64 t.le, .bool t.mo, .int .i64 t.nx, .slice OA t.ol oc]
/-- Its lists lie in rows of the call's own. -/
def TV.Rd (t : TV) (base : Nat) (X : World) (BA : Option Addr) (bc : Nat) (WA : Option Addr) (wc : Nat) (OA : Option Addr) (oc : Nat) : Prop :=
  X.ownsRow base 4 1 (.slice BA t.bl bc) t.bl (t.bs.map Value.bool) ∧ X.ownsRow base 28 1 (.slice WA t.wl wc) t.wl (t.ws.map (Value.int .u16)) ∧ X.ownsRow base 72 2 (.slice OA t.ol oc) t.ol (obs t.os)
/-- Its numbers are such as a reply may have. -/
structure TV.Fine (t : TV) : Prop where
  wide : WideT t.at_ t.q t.v t.an t.orr t.co t.le t.nx
  bl : t.bl ≤ 100000
  wl : t.wl ≤ 100000
  ol : t.ol ≤ 100000
  sizes : ∀ o ∈ t.os, o.2.size ≤ 1000000
abbrev TV.right (t : TV) : Prop := tellP t.fn t.ex t.bl t.wl t.at_ t.q t.v t.an t.orr t.co t.le t.mo.toNat t.nx t.ol (decide (fitP t.os)).toNat
def TOk (F : FuncId) (A : Option Addr) (n c : Nat) (m : Int) (t : TV) (w : World) : Prop :=
  Calls Try.prog F #[.slice A n c, .int .i64 m] w fun e w' => ∃ BA bc WA wc OA oc, e = .returned (.tuple #[t.agg BA bc WA wc OA oc, .bool true]) ∧ t.Rd w.heap.size w' BA bc WA wc OA oc ∧ Below w.heap.size w w'
def TBad (F : FuncId) (A : Option Addr) (n c : Nat) (m : Int) (t : TV) (w : World) : Prop :=
  Calls Try.prog F #[.slice A n c, .int .i64 m] w fun e w' => ∃ BA bc WA wc OA ol oc, e = .returned (.tuple #[({ t with ol := ol } : TV).agg BA bc WA wc OA oc, .bool false]) ∧ Below w.heap.size w w'
def TZero (F : FuncId) (A : Option Addr) (n c : Nat) (m : Int) (w : World) : Prop :=
  Calls Try.prog F #[.slice A n c, .int .i64 m] w fun e w' => e = .returned (.tuple #[({} : TV).agg none 0 none 0 none 0, .int .i64 2]) ∧ Below w.heap.size w w'
def TGot (F : FuncId) (A : Option Addr) (n c : Nat) (m : Int) (t : TV) (w : World) : Prop :=
  Calls Try.prog F #[.slice A n c, .int .i64 m] w fun e w' => ∃ BA bc WA wc OA oc, e = .returned (.tuple #[t.agg BA bc WA wc OA oc, .int .i64 0]) ∧ t.Rd (w.heap.size + 1) w' BA bc WA wc OA oc ∧ Below w.heap.size w w'
/-- The bytes at hand, with room behind them for the program, or not for the document. -/
def PIn (zs : List Int) (n b off c : Nat) (w : World) : Prop := Row .u8 w w.heap.size (some ⟨b, off, none⟩) n zs ∧ n ≤ c ∧ (2 ≤ n → c ≠ 2) ∧ (7 ≤ n → c ≠ 7)
def DIn (zs : List Int) (n b off c : Nat) (w : World) : Prop := Row .u8 w w.heap.size (some ⟨b, off, none⟩) n zs ∧ n ≤ c
theorem PIn.below {zs : List Int} {n b off c : Nat} {w W : World} (h : PIn zs n b off c w) (hb : Below w.heap.size w W) : PIn zs n b off c W := ⟨(h.1.below hb).more hb.size, h.2⟩
theorem DIn.below {zs : List Int} {n b off c : Nat} {w W : World} (h : DIn zs n b off c w) (hb : Below w.heap.size w W) : DIn zs n b off c W := ⟨(h.1.below hb).more hb.size, h.2⟩
theorem DIn.cell {zs : List Int} {n b off c : Nat} {w : World} (h : DIn zs n b off c w) (hn : 1 ≤ n) : b < w.heap.size ∧ ∀ j, j < n → w.cell? ⟨b, off + j, none⟩ = some (.int .u8 (zs.getD j 0)) := by
  obtain ⟨b', off', e, hb, hc⟩ := h.1.2 (by omega)
  injection e with e
  injection e with e1 e2
  subst e1 e2
  exact ⟨hb, hc⟩

theorem TV.Rd.keep {t : TV} {base : Nat} {X Y : World} {BA : Option Addr} {bc : Nat} {WA : Option Addr} {wc : Nat} {OA : Option Addr} {oc : Nat} (h : t.Rd base X BA bc WA wc OA oc) (hb : Below X.heap.size X Y) : t.Rd base Y BA bc WA wc OA oc :=
  ⟨own_keep h.1 hb, own_keep h.2.1 hb, own2_keep h.2.2 hb⟩
theorem TV.Rd.set {t : TV} {base : Nat} {X : World} {BA : Option Addr} {bc : Nat} {WA : Option Addr} {wc : Nat} {OA : Option Addr} {oc : Nat} (h : t.Rd base X BA bc WA wc OA oc) (p : Addr) (u : Value) (hp : p.block < base) : t.Rd base (X.setCell p u) BA bc WA wc OA oc :=
  ⟨own_far h.1 p hp u, own_far h.2.1 p hp u, own2_low h.2.2 p hp u⟩
theorem TV.Rd.fits {t : TV} (hf : t.Fine) {base : Nat} {X : World} {BA : Option Addr} {bc : Nat} {WA : Option Addr} {wc : Nat} {OA : Option Addr} {oc : Nat} (h : t.Rd base X BA bc WA wc OA oc) : Fits X OA t.ol oc (decide (fitP t.os)) :=
  fits_any OA t.ol oc t.os X _ (ol_of_own h.2.2) hf.ol hf.sizes rfl
theorem rd_nil (t : TV) (base : Nat) (X : World) (h1 : t.bl = 0) (h2 : t.wl = 0) (h3 : t.ol = 0) (h4 : t.bs = []) (h5 : t.ws = []) (h6 : t.os = []) : t.Rd base X none 0 none 0 none 0 := by
  unfold TV.Rd
  rw [h1, h2, h3, h4, h5, h6]
  exact ⟨own_none _ _ _, own_none _ _ _, own2_none _ _ _⟩

section
variable {zs : List Int} {n : Nat} {m : Int} {t t' : TV}

theorem p_bad (hP : ∀ b off c w, PIn zs n b off c w → TBad 38 (some ⟨b, off, none⟩) n c m t w) {b off c : Nat} {w : World} (h : PIn zs n b off c w) : TZero 12 (some ⟨b, off, none⟩) n c m w :=
  pp_bad2 (some ⟨b, off, none⟩) n c m w t.fn t.ex t.bl t.wl t.at_ t.q t.v t.an t.orr t.co t.le t.mo t.nx (fun W hW => hP b off c W (h.below hW))
theorem p_ok (hf : t.Fine) (hP : ∀ b off c w, PIn zs n b off c w → TOk 38 (some ⟨b, off, none⟩) n c m t w) {b off c : Nat} {w : World} (h : PIn zs n b off c w) (hr : t.right) : TGot 12 (some ⟨b, off, none⟩) n c m t w :=
  pp_ok (some ⟨b, off, none⟩) n c m w t.fn t.ex t.bl t.wl t.at_ t.q t.v t.an t.orr t.co t.le t.mo t.nx t.ol (decide (fitP t.os)) (fun base X BA bc WA wc OA oc => t.Rd base X BA bc WA wc OA oc) (fun W hW => hP b off c W (h.below hW))
    (fun _ _ _ _ _ _ _ _ _ hr hb => hr.keep hb) (fun _ _ p u _ _ _ _ _ _ hr hp => hr.set p u hp) (fun _ _ _ _ _ _ _ _ hr => hr.fits hf) hf.wide (decide_eq_true hr)
theorem p_not (hf : t.Fine) (hP : ∀ b off c w, PIn zs n b off c w → TOk 38 (some ⟨b, off, none⟩) n c m t w) {b off c : Nat} {w : World} (h : PIn zs n b off c w) (hr : ¬ t.right) : TZero 12 (some ⟨b, off, none⟩) n c m w :=
  pp_not (some ⟨b, off, none⟩) n c m w t.fn t.ex t.bl t.wl t.at_ t.q t.v t.an t.orr t.co t.le t.mo t.nx t.ol (decide (fitP t.os)) (fun base X BA bc WA wc OA oc => t.Rd base X BA bc WA wc OA oc) (fun W hW => hP b off c W (h.below hW))
    (fun _ _ _ _ _ _ _ _ _ hr hb => hr.keep hb) (fun _ _ p u _ _ _ _ _ _ hr hp => hr.set p u hp) (fun _ _ _ _ _ _ _ _ hr => hr.fits hf) hf.wide (decide_eq_false hr)

theorem r_bad (hn : 1 ≤ n) (h8 : zs.getD 0 0 < 128) (hD : ∀ b off c w, DIn zs n b off c w → TBad 40 (some ⟨b, off, none⟩) n c m t w) {b off c : Nat} {w : World} (h : DIn zs n b off c w) : TZero 13 (some ⟨b, off, none⟩) n c m w :=
  rp_bad2 b off n c m (zs.getD 0 0) w (h.cell hn).1 ((h.cell hn).2 0 (by omega)) hn h8 t.fn t.ex t.bl t.wl t.at_ t.q t.v t.an t.orr t.co t.le t.mo t.nx (fun W hW => hD b off c W (h.below hW))
theorem r_tells (hf : t.Fine) {base : Nat} {X W : World} {BA : Option Addr} {bc : Nat} {WA : Option Addr} {wc : Nat} {OA : Option Addr} {oc : Nat} (h : t.Rd base X BA bc WA wc OA oc) (hW : Below X.heap.size X W) (b : Bool) (hb : decide t.right = b) :
    Calls Try.prog 41 #[t.agg BA bc WA wc OA oc] W fun e w' => e = .returned (.bool b) ∧ Below W.heap.size W w' := by
  subst hb
  exact rtells_any t.fn t.ex t.bl t.wl t.at_ t.q t.v t.an t.orr t.co t.le t.mo t.nx t.ol BA WA OA bc wc oc (decide (fitP t.os)) W t.os hf.wide.v0 (ol_of_own (h.keep hW).2.2) hf.ol hf.sizes rfl
theorem r_ok (hn : 1 ≤ n) (h8 : zs.getD 0 0 < 128) (hf : t.Fine) (hD : ∀ b off c w, DIn zs n b off c w → TOk 40 (some ⟨b, off, none⟩) n c m t w) {b off c : Nat} {w : World} (h : DIn zs n b off c w) (hr : t.right) : TGot 13 (some ⟨b, off, none⟩) n c m t w :=
  rp_ok b off n c m (zs.getD 0 0) w (h.cell hn).1 ((h.cell hn).2 0 (by omega)) hn h8 t.fn t.ex t.bl t.wl t.at_ t.q t.v t.an t.orr t.co t.le t.mo t.nx t.ol (fun base X BA bc WA wc OA oc => t.Rd base X BA bc WA wc OA oc) (fun W hW => hD b off c W (h.below hW))
    (fun _ _ _ _ _ _ _ _ _ hr hb => hr.keep hb) (fun _ _ p u _ _ _ _ _ _ hr hp => hr.set p u hp) (fun _ _ _ _ _ _ _ _ h W hW => r_tells hf h hW true (decide_eq_true hr))
theorem r_not (hn : 1 ≤ n) (h8 : zs.getD 0 0 < 128) (hf : t.Fine) (hD : ∀ b off c w, DIn zs n b off c w → TOk 40 (some ⟨b, off, none⟩) n c m t w) {b off c : Nat} {w : World} (h : DIn zs n b off c w) (hr : ¬ t.right) : TZero 13 (some ⟨b, off, none⟩) n c m w :=
  rp_not b off n c m (zs.getD 0 0) w (h.cell hn).1 ((h.cell hn).2 0 (by omega)) hn h8 t.fn t.ex t.bl t.wl t.at_ t.q t.v t.an t.orr t.co t.le t.mo t.nx t.ol (fun base X BA bc WA wc OA oc => t.Rd base X BA bc WA wc OA oc) (fun W hW => hD b off c W (h.below hW))
    (fun _ _ _ _ _ _ _ _ _ hr hb => hr.keep hb) (fun _ _ p u _ _ _ _ _ _ hr hp => hr.set p u hp) (fun _ _ _ _ _ _ _ _ h W hW => r_tells hf h hW false (decide_eq_false hr))

/-- Both sides refuse the bytes, or read the same reply out of them. -/
def Agree (zs : List Int) (n : Nat) (m : Int) : Prop :=
  ((∀ b off c w, PIn zs n b off c w → TZero 12 (some ⟨b, off, none⟩) n c m w) ∧ ∀ b off c w, DIn zs n b off c w → TZero 13 (some ⟨b, off, none⟩) n c m w) ∨
  ∃ t : TV, t.Fine ∧ (∀ b off c w, PIn zs n b off c w → TGot 12 (some ⟨b, off, none⟩) n c m t w) ∧ ∀ b off c w, DIn zs n b off c w → TGot 13 (some ⟨b, off, none⟩) n c m t w
theorem agree_bad (t t' : TV) (hn : 1 ≤ n) (h8 : zs.getD 0 0 < 128) (hP : ∀ b off c w, PIn zs n b off c w → TBad 38 (some ⟨b, off, none⟩) n c m t w) (hD : ∀ b off c w, DIn zs n b off c w → TBad 40 (some ⟨b, off, none⟩) n c m t' w) : Agree zs n m :=
  .inl ⟨fun _ _ _ _ h => p_bad hP h, fun _ _ _ _ h => r_bad hn h8 hD h⟩
theorem agree_not (t t' : TV) (hn : 1 ≤ n) (h8 : zs.getD 0 0 < 128) (hf : t.Fine) (hr : ¬ t.right) (hP : ∀ b off c w, PIn zs n b off c w → TOk 38 (some ⟨b, off, none⟩) n c m t w) (hD : ∀ b off c w, DIn zs n b off c w → TBad 40 (some ⟨b, off, none⟩) n c m t' w) : Agree zs n m :=
  .inl ⟨fun _ _ _ _ h => p_not hf hP h hr, fun _ _ _ _ h => r_bad hn h8 hD h⟩
theorem agree_notD (t t' : TV) (hn : 1 ≤ n) (h8 : zs.getD 0 0 < 128) (hf : t.Fine) (hr : ¬ t.right) (hP : ∀ b off c w, PIn zs n b off c w → TBad 38 (some ⟨b, off, none⟩) n c m t' w) (hD : ∀ b off c w, DIn zs n b off c w → TOk 40 (some ⟨b, off, none⟩) n c m t w) : Agree zs n m :=
  .inl ⟨fun _ _ _ _ h => p_bad hP h, fun _ _ _ _ h => r_not hn h8 hf hD h hr⟩
theorem agree_ok (t : TV) (hn : 1 ≤ n) (h8 : zs.getD 0 0 < 128) (hf : t.Fine) (hP : ∀ b off c w, PIn zs n b off c w → TOk 38 (some ⟨b, off, none⟩) n c m t w) (hD : ∀ b off c w, DIn zs n b off c w → TOk 40 (some ⟨b, off, none⟩) n c m t w) : Agree zs n m := by
  by_cases hr : t.right
  · exact .inr ⟨t, hf, fun _ _ _ _ h => p_ok hf hP h hr, fun _ _ _ _ h => r_ok hn h8 hf hD h hr⟩
  · exact .inl ⟨fun _ _ _ _ h => p_not hf hP h hr, fun _ _ _ _ h => r_not hn h8 hf hD h hr⟩
end

set_option maxRecDepth 100000 in
set_option maxHeartbeats 1000000 in
theorem rpx_nil (A : Option Addr) (n c : Nat) (m : Int) (w : World) (h : n = 0) :
    Calls Try.prog 13 #[.slice A n c, .int .i64 m] w fun e w' => e = .returned (.tuple #[.agg #[.int .i64 0, .int .i64 0, .slice none 0 0, .slice none 0 0, .int .i64 0, .int .i64 0, .int .u16 0, .int .u16 0, .int .u16 0, .int .i64 0, .int .i64 0, .bool false, .int .i64 0, .slice none 0 0], .int .i64 2]) ∧ Below w.heap.size w w' := by
  have HX : Hid (WholeV (w.alloc (.cells #[.int .i64 0, .int .i64 0, .slice none 0 0, .slice none 0 0, .int .i64 0, .int .i64 0, .int .u16 0, .int .u16 0, .int .u16 0, .int .i64 0, .int .i64 0, .bool false, .int .i64 0, .slice none 0 0] 31)) w.heap.size 31 [.int .i64 0, .int .i64 0, .slice none 0 0, .slice none 0 0, .int .i64 0, .int .i64 0, .int .u16 0, .int .u16 0, .int .u16 0, .int .i64 0, .int .i64 0, .bool false, .int .i64 0, .slice none 0 0]) := heap_alloc_new w _
  have HB : Hid (Below w.heap.size w (w.alloc (.cells #[.int .i64 0, .int .i64 0, .slice none 0 0, .slice none 0 0, .int .i64 0, .int .i64 0, .int .u16 0, .int .u16 0, .int .u16 0, .int .i64 0, .int .i64 0, .bool false, .int .i64 0, .slice none 0 0] 31))) := (Below.refl _ _).alloc (Nat.le_refl _) _
  subst h
  go_enter Try.func13, Try.ntmps13
  go_wp2_with fail
  have hz := HX.out.lt
  obtain ⟨he0, he1, he2, he3, he4, he5, he6, he7, he8, he9, he10, he11, he12, he13⟩ := cells14 HX.out
  exact bodyPost_ret (v := .tuple #[.agg #[.int .i64 0, .int .i64 0, .slice none 0 0, .slice none 0 0, .int .i64 0, .int .i64 0, .int .u16 0, .int .u16 0, .int .u16 0, .int .i64 0, .int .i64 0, .bool false, .int .i64 0, .slice none 0 0], .int .i64 2]) (by simp [results, Try.results13, go_sem, hz, he0, he1, he2, he3, he4, he5, he6, he7, he8, he9, he10, he11, he12, he13]) rfl ⟨rfl, HB.out⟩

set_option maxRecDepth 100000 in
set_option maxHeartbeats 1000000 in
theorem rpx_len (b off : Nat) (f : Int) (n c : Nat) (m : Int) (w : World) (hb : b < w.heap.size) (hcell : w.cell? ⟨b, off, none⟩ = some (.int .u8 f)) (h8 : 128 ≤ f) (hf : f ≤ 255) (h1 : 1 ≤ n) (h2 : n ≠ 2) :
    Calls Try.prog 13 #[.slice (some ⟨b, off, none⟩) n c, .int .i64 m] w fun e w' => e = .returned (.tuple #[.agg #[.int .i64 0, .int .i64 0, .slice none 0 0, .slice none 0 0, .int .i64 0, .int .i64 0, .int .u16 0, .int .u16 0, .int .u16 0, .int .i64 0, .int .i64 0, .bool false, .int .i64 0, .slice none 0 0], .int .i64 2]) ∧ Below w.heap.size w w' := by
  have HX : Hid (WholeV (w.alloc (.cells #[.int .i64 0, .int .i64 0, .slice none 0 0, .slice none 0 0, .int .i64 0, .int .i64 0, .int .u16 0, .int .u16 0, .int .u16 0, .int .i64 0, .int .i64 0, .bool false, .int .i64 0, .slice none 0 0] 31)) w.heap.size 31 [.int .i64 0, .int .i64 0, .slice none 0 0, .slice none 0 0, .int .i64 0, .int .i64 0, .int .u16 0, .int .u16 0, .int .u16 0, .int .i64 0, .int .i64 0, .bool false, .int .i64 0, .slice none 0 0]) := heap_alloc_new w _
  have HB : Hid (Below w.heap.size w (w.alloc (.cells #[.int .i64 0, .int .i64 0, .slice none 0 0, .slice none 0 0, .int .i64 0, .int .i64 0, .int .u16 0, .int .u16 0, .int .u16 0, .int .i64 0, .int .i64 0, .bool false, .int .i64 0, .slice none 0 0] 31))) := (Below.refl _ _).alloc (Nat.le_refl _) _
  have hw0 : (w.alloc (.cells #[.int .i64 0, .int .i64 0, .slice none 0 0, .slice none 0 0, .int .i64 0, .int .i64 0, .int .u16 0, .int .u16 0, .int .u16 0, .int .i64 0, .int .i64 0, .bool false, .int .i64 0, .slice none 0 0] 31)).cell? ⟨b, off, none⟩ = some (.int .u8 f) := (World.cell?_alloc_lt w _ ⟨b, off, none⟩ hb).trans hcell
  have hn0 : (0 : Int) < (n : Int) := by omega
  have hn00 : ((n : Int) == 0) = false := beq_eq_false_iff_ne.2 (by omega)
  have hnn : ((n : Int) != 2) = true := by simp; omega
  clear hcell
  go_enter Try.func13, Try.ntmps13
  go_wp2_with fail
  have hz := HX.out.lt
  obtain ⟨he0, he1, he2, he3, he4, he5, he6, he7, he8, he9, he10, he11, he12, he13⟩ := cells14 HX.out
  exact bodyPost_ret (v := .tuple #[.agg #[.int .i64 0, .int .i64 0, .slice none 0 0, .slice none 0 0, .int .i64 0, .int .i64 0, .int .u16 0, .int .u16 0, .int .u16 0, .int .i64 0, .int .i64 0, .bool false, .int .i64 0, .slice none 0 0], .int .i64 2]) (by simp [results, Try.results13, go_sem, hz, he0, he1, he2, he3, he4, he5, he6, he7, he8, he9, he10, he11, he12, he13]) rfl ⟨rfl, HB.out⟩

theorem failing_any (x : Int) (w : World) (h0 : 0 ≤ x) (h1 : x ≤ 255) : Calls Try.prog 39 #[.int .i64 x] w fun e w' => e = .returned (.bool (decide (x = 1 ∨ x = 2 ∨ x = 3 ∨ x = 4 ∨ x = 6))) ∧ w = w' := rfailing_any x w

set_option maxRecDepth 100000 in
set_option maxHeartbeats 1000000 in
theorem rpx_no (b off : Nat) (f : Int) (x : Int) (n c : Nat) (m : Int) (w : World) (hb : b < w.heap.size) (hcell : w.cell? ⟨b, off, none⟩ = some (.int .u8 f)) (h8 : 128 ≤ f) (hf : f ≤ 255) (hcell1 : w.cell? ⟨b, off + 1, none⟩ = some (.int .u8 x)) (h2 : n = 2) (hx0 : 0 ≤ x) (hx1 : x ≤ 255) (hno : ¬ (x = 1 ∨ x = 2 ∨ x = 3 ∨ x = 4 ∨ x = 6)) :
    Calls Try.prog 13 #[.slice (some ⟨b, off, none⟩) n c, .int .i64 m] w fun e w' => e = .returned (.tuple #[.agg #[.int .i64 0, .int .i64 0, .slice none 0 0, .slice none 0 0, .int .i64 0, .int .i64 0, .int .u16 0, .int .u16 0, .int .u16 0, .int .i64 0, .int .i64 0, .bool false, .int .i64 0, .slice none 0 0], .int .i64 2]) ∧ Below w.heap.size w w' := by
  have HX : Hid (WholeV (w.alloc (.cells #[.int .i64 0, .int .i64 0, .slice none 0 0, .slice none 0 0, .int .i64 0, .int .i64 0, .int .u16 0, .int .u16 0, .int .u16 0, .int .i64 0, .int .i64 0, .bool false, .int .i64 0, .slice none 0 0] 31)) w.heap.size 31 [.int .i64 0, .int .i64 0, .slice none 0 0, .slice none 0 0, .int .i64 0, .int .i64 0, .int .u16 0, .int .u16 0, .int .u16 0, .int .i64 0, .int .i64 0, .bool false, .int .i64 0, .slice none 0 0]) := heap_alloc_new w _
  have HB : Hid (Below w.heap.size w (w.alloc (.cells #[.int .i64 0, .int .i64 0, .slice none 0 0, .slice none 0 0, .int .i64 0, .int .i64 0, .int .u16 0, .int .u16 0, .int .u16 0, .int .i64 0, .int .i64 0, .bool false, .int .i64 0, .slice none 0 0] 31))) := (Below.refl _ _).alloc (Nat.le_refl _) _
  have hw0 : (w.alloc (.cells #[.int .i64 0, .int .i64 0, .slice none 0 0, .slice none 0 0, .int .i64 0, .int .i64 0, .int .u16 0, .int .u16 0, .int .u16 0, .int .i64 0, .int .i64 0, .bool false, .int .i64 0, .slice none 0 0] 31)).cell? ⟨b, off, none⟩ = some (.int .u8 f) := (World.cell?_alloc_lt w _ ⟨b, off, none⟩ hb).trans hcell
  have hn0 : (0 : Int) < (n : Int) := by omega
  have hn00 : ((n : Int) == 0) = false := beq_eq_false_iff_ne.2 (by omega)
  have CX := Lib.hid (fun W => failing_any x W hx0 hx1)
  rw [decide_eq_false hno] at CX
  have hw1 : (w.alloc (.cells #[.int .i64 0, .int .i64 0, .slice none 0 0, .slice none 0 0, .int .i64 0, .int .i64 0, .int .u16 0, .int .u16 0, .int .u16 0, .int .i64 0, .int .i64 0, .bool false, .int .i64 0, .slice none 0 0] 31)).cell? ⟨b, off + 1, none⟩ = some (.int .u8 x) := (World.cell?_alloc_lt w _ ⟨b, off + 1, none⟩ hb).trans hcell1
  have hn2 : (1 : Int) < (n : Int) := by omega
  have hn0n : 0 < n := by omega
  have hn1n : 1 < n := by omega
  have hnn : ((n : Int) != 2) = false := by simp [h2]
  have wx : IntKind.i64.wrap x = x := IntWalk.i64_in _ (by omega)
  have wf : IntKind.i64.wrap f = f := IntWalk.i64_in _ (by omega)
  have wf2 : IntKind.i64.wrap (f - 128) = f - 128 := IntWalk.i64_in _ (by omega)
  clear hcell hcell1 h2
  clear hno
  go_enter Try.func13, Try.ntmps13
  go_wp2_with (first
    | (go_at_call 39; (with_reducible refine (CX.out _).mono ?_); rintro e w5 ⟨rfl, rfl⟩))
  have hz := HX.out.lt
  obtain ⟨he0, he1, he2, he3, he4, he5, he6, he7, he8, he9, he10, he11, he12, he13⟩ := cells14 HX.out
  exact bodyPost_ret (v := .tuple #[.agg #[.int .i64 0, .int .i64 0, .slice none 0 0, .slice none 0 0, .int .i64 0, .int .i64 0, .int .u16 0, .int .u16 0, .int .u16 0, .int .i64 0, .int .i64 0, .bool false, .int .i64 0, .slice none 0 0], .int .i64 2]) (by simp [results, Try.results13, go_sem, hz, he0, he1, he2, he3, he4, he5, he6, he7, he8, he9, he10, he11, he12, he13]) rfl ⟨rfl, HB.out⟩

set_option maxRecDepth 100000 in
set_option maxHeartbeats 1000000 in
theorem rpx_yes (b off : Nat) (f : Int) (x : Int) (n c : Nat) (m : Int) (w : World) (hb : b < w.heap.size) (hcell : w.cell? ⟨b, off, none⟩ = some (.int .u8 f)) (h8 : 128 ≤ f) (hf : f ≤ 255) (hcell1 : w.cell? ⟨b, off + 1, none⟩ = some (.int .u8 x)) (h2 : n = 2) (hx0 : 0 ≤ x) (hx1 : x ≤ 255) (hyes : x = 1 ∨ x = 2 ∨ x = 3 ∨ x = 4 ∨ x = 6) :
    Calls Try.prog 13 #[.slice (some ⟨b, off, none⟩) n c, .int .i64 m] w fun e w' => e = .returned (.tuple #[.agg #[.int .i64 (f - 128), .int .i64 x, .slice none 0 0, .slice none 0 0, .int .i64 0, .int .i64 0, .int .u16 0, .int .u16 0, .int .u16 0, .int .i64 0, .int .i64 0, .bool false, .int .i64 0, .slice none 0 0], .int .i64 0]) ∧ Below w.heap.size w w' := by
  have HX : Hid (WholeV (w.alloc (.cells #[.int .i64 0, .int .i64 0, .slice none 0 0, .slice none 0 0, .int .i64 0, .int .i64 0, .int .u16 0, .int .u16 0, .int .u16 0, .int .i64 0, .int .i64 0, .bool false, .int .i64 0, .slice none 0 0] 31)) w.heap.size 31 [.int .i64 0, .int .i64 0, .slice none 0 0, .slice none 0 0, .int .i64 0, .int .i64 0, .int .u16 0, .int .u16 0, .int .u16 0, .int .i64 0, .int .i64 0, .bool false, .int .i64 0, .slice none 0 0]) := heap_alloc_new w _
  have HB : Hid (Below w.heap.size w (w.alloc (.cells #[.int .i64 0, .int .i64 0, .slice none 0 0, .slice none 0 0, .int .i64 0, .int .i64 0, .int .u16 0, .int .u16 0, .int .u16 0, .int .i64 0, .int .i64 0, .bool false, .int .i64 0, .slice none 0 0] 31))) := (Below.refl _ _).alloc (Nat.le_refl _) _
  have hw0 : (w.alloc (.cells #[.int .i64 0, .int .i64 0, .slice none 0 0, .slice none 0 0, .int .i64 0, .int .i64 0, .int .u16 0, .int .u16 0, .int .u16 0, .int .i64 0, .int .i64 0, .bool false, .int .i64 0, .slice none 0 0] 31)).cell? ⟨b, off, none⟩ = some (.int .u8 f) := (World.cell?_alloc_lt w _ ⟨b, off, none⟩ hb).trans hcell
  have hn0 : (0 : Int) < (n : Int) := by omega
  have hn00 : ((n : Int) == 0) = false := beq_eq_false_iff_ne.2 (by omega)
  have CX := Lib.hid (fun W => failing_any x W hx0 hx1)
  rw [decide_eq_true hyes] at CX
  have hw1 : (w.alloc (.cells #[.int .i64 0, .int .i64 0, .slice none 0 0, .slice none 0 0, .int .i64 0, .int .i64 0, .int .u16 0, .int .u16 0, .int .u16 0, .int .i64 0, .int .i64 0, .bool false, .int .i64 0, .slice none 0 0] 31)).cell? ⟨b, off + 1, none⟩ = some (.int .u8 x) := (World.cell?_alloc_lt w _ ⟨b, off + 1, none⟩ hb).trans hcell1
  have hn2 : (1 : Int) < (n : Int) := by omega
  have hn0n : 0 < n := by omega
  have hn1n : 1 < n := by omega
  have hnn : ((n : Int) != 2) = false := by simp [h2]
  have wx : IntKind.i64.wrap x = x := IntWalk.i64_in _ (by omega)
  have wf : IntKind.i64.wrap f = f := IntWalk.i64_in _ (by omega)
  have wf2 : IntKind.i64.wrap (f - 128) = f - 128 := IntWalk.i64_in _ (by omega)
  clear hcell hcell1 h2
  clear hyes
  go_enter Try.func13, Try.ntmps13
  go_wp2_with (first
    | (go_at_call 39; (with_reducible refine (CX.out _).mono ?_); rintro e w5 ⟨rfl, rfl⟩))
  go_region_law (fail)
  all_goals
    go_wp2_with fail
    have HY : WholeV (w.alloc (.cells #[.int .i64 (f - 128), .int .i64 x, .slice none 0 0, .slice none 0 0, .int .i64 0, .int .i64 0, .int .u16 0, .int .u16 0, .int .u16 0, .int .i64 0, .int .i64 0, .bool false, .int .i64 0, .slice none 0 0] 31)).drew w.heap.size 31 [.int .i64 (f - 128), .int .i64 x, .slice none 0 0, .slice none 0 0, .int .i64 0, .int .i64 0, .int .u16 0, .int .u16 0, .int .u16 0, .int .i64 0, .int .i64 0, .bool false, .int .i64 0, .slice none 0 0] := heap_alloc_new w _
    have HBY : Below w.heap.size w (w.alloc (.cells #[.int .i64 (f - 128), .int .i64 x, .slice none 0 0, .slice none 0 0, .int .i64 0, .int .i64 0, .int .u16 0, .int .u16 0, .int .u16 0, .int .i64 0, .int .i64 0, .bool false, .int .i64 0, .slice none 0 0] 31)).drew := ((Below.refl _ _).alloc (Nat.le_refl _) _).drew
    obtain ⟨w9, hw9⟩ : ∃ w9, (w.alloc (.cells #[.int .i64 (f - 128), .int .i64 x, .slice none 0 0, .slice none 0 0, .int .i64 0, .int .i64 0, .int .u16 0, .int .u16 0, .int .u16 0, .int .i64 0, .int .i64 0, .bool false, .int .i64 0, .slice none 0 0] 31)).drew = w9 := ⟨_, rfl⟩
    rw [hw9] at HY HBY
    rw [hw9]
    have hz := HY.lt
    obtain ⟨he0, he1, he2, he3, he4, he5, he6, he7, he8, he9, he10, he11, he12, he13⟩ := cells14 HY
    exact bodyPost_ret (v := .tuple #[.agg #[.int .i64 (f - 128), .int .i64 x, .slice none 0 0, .slice none 0 0, .int .i64 0, .int .i64 0, .int .u16 0, .int .u16 0, .int .u16 0, .int .i64 0, .int .i64 0, .bool false, .int .i64 0, .slice none 0 0], .int .i64 0]) (by simp [results, Try.results13, go_sem, Act.put, hz, he0, he1, he2, he3, he4, he5, he6, he7, he8, he9, he10, he11, he12, he13]) rfl ⟨rfl, HBY⟩

theorem ok_of_plain {F : FuncId} {A : Option Addr} {n c : Nat} {m : Int} {w : World} (t : TV) (h1 : t.bl = 0) (h2 : t.wl = 0) (h3 : t.ol = 0) (h4 : t.bs = []) (h5 : t.ws = []) (h6 : t.os = [])
    (h : Calls Try.prog F #[.slice A n c, .int .i64 m] w fun e w' => e = .returned (.tuple #[t.agg none 0 none 0 none 0, .bool true]) ∧ Below w.heap.size w w') : TOk F A n c m t w :=
  h.mono fun e w' h => ⟨none, 0, none, 0, none, 0, h.1, rd_nil t _ _ h1 h2 h3 h4 h5 h6, h.2⟩
theorem bad_of_plain {F : FuncId} {A : Option Addr} {n c : Nat} {m : Int} {w : World} (t : TV)
    (h : Calls Try.prog F #[.slice A n c, .int .i64 m] w fun e w' => e = .returned (.tuple #[t.agg none 0 none 0 none 0, .bool false]) ∧ Below w.heap.size w w') : TBad F A n c m t w :=
  h.mono fun e w' h => ⟨none, 0, none, 0, none, t.ol, 0, h.1, h.2⟩
theorem fine0 (fn ex : Int) : ({ fn := fn, ex := ex } : TV).Fine := ⟨⟨by dsimp only; omega, by dsimp only; omega, by dsimp only; omega, by dsimp only; omega, by dsimp only; omega, by dsimp only; omega, by dsimp only; omega, by dsimp only; omega, by dsimp only; omega, by dsimp only; omega, by dsimp only; omega, by dsimp only; omega, by dsimp only; omega, by dsimp only; omega, by dsimp only; omega, by dsimp only; omega⟩, by dsimp only; omega, by dsimp only; omega, by dsimp only; omega, fun o ho => by cases ho⟩

section
variable {zs : List Int} {n : Nat} {m : Int}

theorem p_few (hn : n < 2) : ∀ b off c w, PIn zs n b off c w → TBad 38 (some ⟨b, off, none⟩) n c m {} w := fun b off c w _ => bad_of_plain _ (pfT_few (some ⟨b, off, none⟩) n c m w hn)
theorem p_len (sz : Int) (hs : 2 ≤ n → ∀ b off c w, PIn zs n b off c w → Calls Try.prog 69 #[.slice (some ⟨b, off, none⟩) n c] w fun e w' => e = .returned (.int .i64 sz) ∧ w = w') (hne : (n : Int) ≠ sz) :
    ∀ b off c w, PIn zs n b off c w → TBad 38 (some ⟨b, off, none⟩) n c m {} w := by
  intro b off c w h
  by_cases h2 : n < 2
  · exact p_few h2 b off c w h
  · exact bad_of_plain _ (pfl_len (some ⟨b, off, none⟩) n c m sz w (by omega) (fun W hW => hs (by omega) b off c W (h.below hW)) (by simpa using hne))

theorem agree_6 (hx : Bytes8 zs) (hn : n ≤ 300) (h1 : 1 ≤ n) (h0 : zs.getD 0 0 = 6) : Agree zs n m := by
  have h8 : zs.getD 0 0 < 128 := by omega
  obtain ⟨p, hp⟩ : ∃ p, gotW zs n 1 = p := ⟨_, rfl⟩
  obtain ⟨q, hq⟩ : ∃ q, gotW zs n 3 = q := ⟨_, rfl⟩
  obtain ⟨t, ht⟩ : ∃ t, gotW zs n 5 = t := ⟨_, rfl⟩
  have bp := gotW_bounds hx n 1
  rw [hp] at bp
  have bq := gotW_bounds hx n 3
  rw [hq] at bq
  have bt := gotW_bounds hx n 5
  rw [ht] at bt
  have hf : ({ fn := 6, at_ := p, v := q } : TV).Fine := ⟨⟨by dsimp only; omega, by dsimp only; omega, by dsimp only; omega, by dsimp only; omega, by dsimp only; omega, by dsimp only; omega, by dsimp only; omega, by dsimp only; omega, by dsimp only; omega, by dsimp only; omega, by dsimp only; omega, by dsimp only; omega, by dsimp only; omega, by dsimp only; omega, by dsimp only; omega, by dsimp only; omega⟩, by dsimp only; omega, by dsimp only; omega, by dsimp only; omega, fun o ho => by cases ho⟩
  by_cases h5 : n = 5
  · exact agree_ok ({ fn := 6, at_ := p, v := q } : TV) h1 h8 hf (fun b off c w h => ok_of_plain ({ fn := 6, at_ := p, v := q } : TV) rfl rfl rfl rfl rfl rfl (pfl_6 b off n c zs m p q w h.1 hx (by omega) h0 h.2.1 (h.2.2.1 (by omega)) hp hq h5))
      (fun b off c w h => ok_of_plain ({ fn := 6, at_ := p, v := q } : TV) rfl rfl rfl rfl rfl rfl (hrd_6 b off n c zs m p q true w h.1 hx (by omega) h1 h0 h.2 hp hq (by simp; omega)))
  · exact agree_bad {} ({ fn := 6, at_ := p, v := q } : TV) h1 h8 (p_len 5 (fun h2 b off c w h => psz_pair (some ⟨b, off, none⟩) n c zs w 6 h.1 (by omega) h2 h0 (by omega)) (by omega))
      (fun b off c w h => bad_of_plain ({ fn := 6, at_ := p, v := q } : TV) (hrd_6 b off n c zs m p q false w h.1 hx (by omega) h1 h0 h.2 hp hq (by simp; omega)))

theorem agree_15 (hx : Bytes8 zs) (hn : n ≤ 300) (h1 : 1 ≤ n) (h0 : zs.getD 0 0 = 15) : Agree zs n m := by
  have h8 : zs.getD 0 0 < 128 := by omega
  obtain ⟨p, hp⟩ : ∃ p, gotW zs n 1 = p := ⟨_, rfl⟩
  obtain ⟨q, hq⟩ : ∃ q, gotW zs n 3 = q := ⟨_, rfl⟩
  obtain ⟨t, ht⟩ : ∃ t, gotW zs n 5 = t := ⟨_, rfl⟩
  have bp := gotW_bounds hx n 1
  rw [hp] at bp
  have bq := gotW_bounds hx n 3
  rw [hq] at bq
  have bt := gotW_bounds hx n 5
  rw [ht] at bt
  have hf : ({ fn := 15, at_ := p, q := q } : TV).Fine := ⟨⟨by dsimp only; omega, by dsimp only; omega, by dsimp only; omega, by dsimp only; omega, by dsimp only; omega, by dsimp only; omega, by dsimp only; omega, by dsimp only; omega, by dsimp only; omega, by dsimp only; omega, by dsimp only; omega, by dsimp only; omega, by dsimp only; omega, by dsimp only; omega, by dsimp only; omega, by dsimp only; omega⟩, by dsimp only; omega, by dsimp only; omega, by dsimp only; omega, fun o ho => by cases ho⟩
  by_cases h5 : n = 5
  · exact agree_ok ({ fn := 15, at_ := p, q := q } : TV) h1 h8 hf (fun b off c w h => ok_of_plain ({ fn := 15, at_ := p, q := q } : TV) rfl rfl rfl rfl rfl rfl (pfl_15 b off n c zs m p q w h.1 hx (by omega) h0 h.2.1 (h.2.2.1 (by omega)) hp hq h5))
      (fun b off c w h => ok_of_plain ({ fn := 15, at_ := p, q := q } : TV) rfl rfl rfl rfl rfl rfl (hrd_15 b off n c zs m p q true w h.1 hx (by omega) h1 h0 h.2 hp hq (by simp; omega)))
  · exact agree_bad {} ({ fn := 15, at_ := p, q := q } : TV) h1 h8 (p_len 5 (fun h2 b off c w h => psz_pair (some ⟨b, off, none⟩) n c zs w 15 h.1 (by omega) h2 h0 (by omega)) (by omega))
      (fun b off c w h => bad_of_plain ({ fn := 15, at_ := p, q := q } : TV) (hrd_15 b off n c zs m p q false w h.1 hx (by omega) h1 h0 h.2 hp hq (by simp; omega)))

theorem agree_16 (hx : Bytes8 zs) (hn : n ≤ 300) (h1 : 1 ≤ n) (h0 : zs.getD 0 0 = 16) : Agree zs n m := by
  have h8 : zs.getD 0 0 < 128 := by omega
  obtain ⟨p, hp⟩ : ∃ p, gotW zs n 1 = p := ⟨_, rfl⟩
  obtain ⟨q, hq⟩ : ∃ q, gotW zs n 3 = q := ⟨_, rfl⟩
  obtain ⟨t, ht⟩ : ∃ t, gotW zs n 5 = t := ⟨_, rfl⟩
  have bp := gotW_bounds hx n 1
  rw [hp] at bp
  have bq := gotW_bounds hx n 3
  rw [hq] at bq
  have bt := gotW_bounds hx n 5
  rw [ht] at bt
  have hf : ({ fn := 16, at_ := p, q := q } : TV).Fine := ⟨⟨by dsimp only; omega, by dsimp only; omega, by dsimp only; omega, by dsimp only; omega, by dsimp only; omega, by dsimp only; omega, by dsimp only; omega, by dsimp only; omega, by dsimp only; omega, by dsimp only; omega, by dsimp only; omega, by dsimp only; omega, by dsimp only; omega, by dsimp only; omega, by dsimp only; omega, by dsimp only; omega⟩, by dsimp only; omega, by dsimp only; omega, by dsimp only; omega, fun o ho => by cases ho⟩
  by_cases h5 : n = 5
  · exact agree_ok ({ fn := 16, at_ := p, q := q } : TV) h1 h8 hf (fun b off c w h => ok_of_plain ({ fn := 16, at_ := p, q := q } : TV) rfl rfl rfl rfl rfl rfl (pfl_16 b off n c zs m p q w h.1 hx (by omega) h0 h.2.1 (h.2.2.1 (by omega)) hp hq h5))
      (fun b off c w h => ok_of_plain ({ fn := 16, at_ := p, q := q } : TV) rfl rfl rfl rfl rfl rfl (hrd_16 b off n c zs m p q true w h.1 hx (by omega) h1 h0 h.2 hp hq (by simp; omega)))
  · exact agree_bad {} ({ fn := 16, at_ := p, q := q } : TV) h1 h8 (p_len 5 (fun h2 b off c w h => psz_pair (some ⟨b, off, none⟩) n c zs w 16 h.1 (by omega) h2 h0 (by omega)) (by omega))
      (fun b off c w h => bad_of_plain ({ fn := 16, at_ := p, q := q } : TV) (hrd_16 b off n c zs m p q false w h.1 hx (by omega) h1 h0 h.2 hp hq (by simp; omega)))

theorem agree_22 (hx : Bytes8 zs) (hn : n ≤ 300) (h1 : 1 ≤ n) (h0 : zs.getD 0 0 = 22) : Agree zs n m := by
  have h8 : zs.getD 0 0 < 128 := by omega
  obtain ⟨p, hp⟩ : ∃ p, gotW zs n 1 = p := ⟨_, rfl⟩
  obtain ⟨q, hq⟩ : ∃ q, gotW zs n 3 = q := ⟨_, rfl⟩
  obtain ⟨t, ht⟩ : ∃ t, gotW zs n 5 = t := ⟨_, rfl⟩
  have bp := gotW_bounds hx n 1
  rw [hp] at bp
  have bq := gotW_bounds hx n 3
  rw [hq] at bq
  have bt := gotW_bounds hx n 5
  rw [ht] at bt
  have hf : ({ fn := 22, at_ := p, an := q, orr := t } : TV).Fine := ⟨⟨by dsimp only; omega, by dsimp only; omega, by dsimp only; omega, by dsimp only; omega, by dsimp only; omega, by dsimp only; omega, by dsimp only; omega, by dsimp only; omega, by dsimp only; omega, by dsimp only; omega, by dsimp only; omega, by dsimp only; omega, by dsimp only; omega, by dsimp only; omega, by dsimp only; omega, by dsimp only; omega⟩, by dsimp only; omega, by dsimp only; omega, by dsimp only; omega, fun o ho => by cases ho⟩
  by_cases h5 : n = 7
  · exact agree_ok ({ fn := 22, at_ := p, an := q, orr := t } : TV) h1 h8 hf (fun b off c w h => ok_of_plain ({ fn := 22, at_ := p, an := q, orr := t } : TV) rfl rfl rfl rfl rfl rfl (pfl_22 b off n c zs m p q t w h.1 hx (by omega) h0 h.2.1 (h.2.2.1 (by omega)) hp hq h5 ht))
      (fun b off c w h => ok_of_plain ({ fn := 22, at_ := p, an := q, orr := t } : TV) rfl rfl rfl rfl rfl rfl (hrd_22 b off n c zs m p q t true w h.1 hx (by omega) h1 h0 h.2 hp hq ht (by simp; omega)))
  · exact agree_bad {} ({ fn := 22, at_ := p, an := q, orr := t } : TV) h1 h8 (p_len 7 (fun h2 b off c w h => psz_22 (some ⟨b, off, none⟩) n c zs w h.1 (by omega) h2 h0) (by omega))
      (fun b off c w h => bad_of_plain ({ fn := 22, at_ := p, an := q, orr := t } : TV) (hrd_22 b off n c zs m p q t false w h.1 hx (by omega) h1 h0 h.2 hp hq ht (by simp; omega)))

theorem agree_5 (hx : Bytes8 zs) (hn : n ≤ 300) (h1 : 1 ≤ n) (h0 : zs.getD 0 0 = 5) : Agree zs n m := by
  have h8 : zs.getD 0 0 < 128 := by omega
  obtain ⟨p, hp⟩ : ∃ p, gotW zs n 1 = p := ⟨_, rfl⟩
  obtain ⟨q, hq⟩ : ∃ q, gotW zs n 3 = q := ⟨_, rfl⟩
  have bp := gotW_bounds hx n 1
  rw [hp] at bp
  by_cases h5 : n = 5
  · by_cases hq0 : q = 0
    · have hf : ({ fn := 5, at_ := p } : TV).Fine := ⟨⟨by dsimp only; omega, by dsimp only; omega, by dsimp only; omega, by dsimp only; omega, by dsimp only; omega, by dsimp only; omega, by dsimp only; omega, by dsimp only; omega, by dsimp only; omega, by dsimp only; omega, by dsimp only; omega, by dsimp only; omega, by dsimp only; omega, by dsimp only; omega, by dsimp only; omega, by dsimp only; omega⟩, by dsimp only; omega, by dsimp only; omega, by dsimp only; omega, fun o ho => by cases ho⟩
      exact agree_ok ({ fn := 5, at_ := p } : TV) h1 h8 hf (fun b off c w h => ok_of_plain ({ fn := 5, at_ := p } : TV) rfl rfl rfl rfl rfl rfl (pfl_5_0 b off n c zs m p q w h.1 hx (by omega) h0 h.2.1 (h.2.2.1 (by omega)) hp hq h5 hq0))
        (fun b off c w h => ok_of_plain ({ fn := 5, at_ := p } : TV) rfl rfl rfl rfl rfl rfl (hrd_5_0 b off n c zs m p q w h.1 hx (by omega) h1 h0 h.2 hp hq (by simp; omega) hq0))
    · by_cases hq1 : q = 65280
      · have hf : ({ fn := 5, at_ := p, v := 1 } : TV).Fine := ⟨⟨by dsimp only; omega, by dsimp only; omega, by dsimp only; omega, by dsimp only; omega, by dsimp only; omega, by dsimp only; omega, by dsimp only; omega, by dsimp only; omega, by dsimp only; omega, by dsimp only; omega, by dsimp only; omega, by dsimp only; omega, by dsimp only; omega, by dsimp only; omega, by dsimp only; omega, by dsimp only; omega⟩, by dsimp only; omega, by dsimp only; omega, by dsimp only; omega, fun o ho => by cases ho⟩
        exact agree_ok ({ fn := 5, at_ := p, v := 1 } : TV) h1 h8 hf (fun b off c w h => ok_of_plain ({ fn := 5, at_ := p, v := 1 } : TV) rfl rfl rfl rfl rfl rfl (pfl_5_1 b off n c zs m p q w h.1 hx (by omega) h0 h.2.1 (h.2.2.1 (by omega)) hp hq h5 hq1))
          (fun b off c w h => ok_of_plain ({ fn := 5, at_ := p, v := 1 } : TV) rfl rfl rfl rfl rfl rfl (hrd_5_1 b off n c zs m p q w h.1 hx (by omega) h1 h0 h.2 hp hq (by simp; omega) hq1))
      · exact agree_bad ({ fn := 5, at_ := p } : TV) ({ fn := 5, at_ := p } : TV) h1 h8 (fun b off c w h => bad_of_plain ({ fn := 5, at_ := p } : TV) (pfl_5_no b off n c zs m p q w h.1 hx (by omega) h0 h.2.1 (h.2.2.1 (by omega)) hp hq h5 hq0 hq1))
          (fun b off c w h => bad_of_plain ({ fn := 5, at_ := p } : TV) (hrd_5_no b off n c zs m p q w h.1 hx (by omega) h1 h0 h.2 hp hq (by simp; omega) hq0 hq1))
  · by_cases hq1 : q = 65280
    · exact agree_bad {} ({ fn := 5, at_ := p, v := 1 } : TV) h1 h8 (p_len 5 (fun h2 b off c w h => psz_pair (some ⟨b, off, none⟩) n c zs w 5 h.1 (by omega) h2 h0 (by omega)) (by omega))
        (fun b off c w h => bad_of_plain ({ fn := 5, at_ := p, v := 1 } : TV) (hrd_5_len1 b off n c zs m p q w h.1 hx (by omega) h1 h0 h.2 hp hq (by simp; omega) hq1))
    · exact agree_bad {} ({ fn := 5, at_ := p } : TV) h1 h8 (p_len 5 (fun h2 b off c w h => psz_pair (some ⟨b, off, none⟩) n c zs w 5 h.1 (by omega) h2 h0 (by omega)) (by omega))
        (fun b off c w h => bad_of_plain ({ fn := 5, at_ := p } : TV) (hrd_5_len0 b off n c zs m p q w h.1 hx (by omega) h1 h0 h.2 hp hq (by simp; omega) hq1))

theorem agree_none (f : Int) (hx : Bytes8 zs) (hn : n ≤ 300) (h1 : 1 ≤ n) (h0 : zs.getD 0 0 = f) (hf : NoFn f) (hf0 : 0 ≤ f) (h8' : f < 128) : Agree zs n m := by
  have h8 : zs.getD 0 0 < 128 := by omega
  have hr : ¬ ({ fn := f } : TV).right := by
    unfold TV.right tellP
    rw [hf.known]
    rintro (⟨_, h, _⟩ | ⟨h, _⟩)
    · cases h
    · revert h; dsimp only; omega
  have hD : ∀ bb, ((n : Int) == 5) = bb → ∀ b off c w, DIn zs n b off c w → _ := fun bb hb b off c w (h : DIn zs n b off c w) => hrd_no b off n c zs m f bb w h.1 hx (by omega) h1 h0 h.2 hf hf0 h8' hb
  by_cases h5 : n = 5
  · exact agree_notD ({ fn := f } : TV) {} h1 h8 (fine0 f 0) hr (p_len 2 (fun h2 b off c w h => psz_no (some ⟨b, off, none⟩) n c zs w f h.1 hx (by omega) h2 h0 hf) (by omega))
      (fun b off c w h => ok_of_plain ({ fn := f } : TV) rfl rfl rfl rfl rfl rfl (hD true (by simp; omega) b off c w h))
  · have hDb : ∀ b off c w, DIn zs n b off c w → TBad 40 (some ⟨b, off, none⟩) n c m ({ fn := f } : TV) w := fun b off c w h => bad_of_plain ({ fn := f } : TV) (hD false (by simp; omega) b off c w h)
    by_cases h2 : n = 2
    · exact agree_not ({ fn := f } : TV) ({ fn := f } : TV) h1 h8 (fine0 f 0) hr (fun b off c w h => ok_of_plain ({ fn := f } : TV) rfl rfl rfl rfl rfl rfl (pfl_no b off n c zs m _ _ f w h.1 hx (by omega) h0 h.2.1 (h.2.2.1 (by omega)) rfl rfl h2 hf hf0 h8')) hDb
    · exact agree_bad {} ({ fn := f } : TV) h1 h8 (p_len 2 (fun h2 b off c w h => psz_no (some ⟨b, off, none⟩) n c zs w f h.1 hx (by omega) h2 h0 hf) (by omega)) hDb

theorem agree_exc (f : Int) (hx : Bytes8 zs) (hn : n ≤ 300) (h1 : 1 ≤ n) (h0 : zs.getD 0 0 = f) (h8 : 128 ≤ f) : Agree zs n m := by
  have hf255 : f ≤ 255 := by have := (hx.at_ 0).2; change zs.getD 0 0 ≤ 255 at this; omega
  have hf : NoFn f := ⟨by omega, by omega, by omega, by omega, by omega, by omega, by omega, by omega, by omega, by omega, by omega⟩
  have hc0 : ∀ {b off c : Nat} {w : World}, DIn zs n b off c w → w.cell? ⟨b, off, none⟩ = some (.int .u8 f) := fun h => by have := (h.cell h1).2 0 (by omega); rwa [Nat.add_zero, h0] at this
  by_cases h2 : n = 2
  · obtain ⟨x, hx1⟩ : ∃ x, zs.getD 1 0 = x := ⟨_, rfl⟩
    have bx : 0 ≤ x ∧ x ≤ 255 := by rw [← hx1]; exact hx.at_ 1
    have hc1 : ∀ {b off c : Nat} {w : World}, DIn zs n b off c w → w.cell? ⟨b, off + 1, none⟩ = some (.int .u8 x) := fun h => by have := (h.cell h1).2 1 (by omega); rwa [hx1] at this
    have hP : ∀ b off c w, PIn zs n b off c w → _ := fun b off c w (h : PIn zs n b off c w) => pfT_exc (some ⟨b, off, none⟩) n c zs m w f x h.1 hx h2 h0 h8 hx1
    by_cases hv : x = 1 ∨ x = 2 ∨ x = 3 ∨ x = 4 ∨ x = 6
    · have hr : ({ fn := f - 128, ex := x } : TV).right := .inr ⟨hv, by dsimp only; omega, by unfold zeroT; simp⟩
      have hPk : ∀ b off c w, PIn zs n b off c w → TOk 38 (some ⟨b, off, none⟩) n c m ({ fn := f - 128, ex := x } : TV) w := fun b off c w h => ok_of_plain ({ fn := f - 128, ex := x } : TV) rfl rfl rfl rfl rfl rfl (by
        have := hP b off c w h
        rw [show decide (x ≠ 0) = true from decide_eq_true (by omega)] at this
        exact this)
      exact .inr ⟨{ fn := f - 128, ex := x }, fine0 _ _, fun _ _ _ _ h => p_ok (fine0 _ _) hPk h hr, fun b off c w h => (rpx_yes b off f x n c m w (h.cell h1).1 (hc0 h) h8 hf255 (hc1 h) h2 bx.1 bx.2 hv).mono fun e w' k => ⟨none, 0, none, 0, none, 0, k.1, rd_nil _ _ _ rfl rfl rfl rfl rfl rfl, k.2⟩⟩
    · have hR : ∀ b off c w, DIn zs n b off c w → TZero 13 (some ⟨b, off, none⟩) n c m w := fun b off c w h => rpx_no b off f x n c m w (h.cell h1).1 (hc0 h) h8 hf255 (hc1 h) h2 bx.1 bx.2 hv
      by_cases hx0 : x = 0
      · refine .inl ⟨fun _ _ _ _ h => p_bad (t := { fn := f - 128, ex := x }) (fun b off c w h => bad_of_plain ({ fn := f - 128, ex := x } : TV) ?_) h, hR⟩
        have := hP b off c w h
        rw [show decide (x ≠ 0) = false from decide_eq_false (by omega)] at this
        exact this
      · have hr : ¬ ({ fn := f - 128, ex := x } : TV).right := by
          unfold TV.right tellP
          rintro (⟨h, _⟩ | ⟨h, _⟩)
          · exact hx0 h
          · exact hv h
        refine .inl ⟨fun _ _ _ _ h => p_not (t := { fn := f - 128, ex := x }) (fine0 _ _) (fun b off c w h => ok_of_plain ({ fn := f - 128, ex := x } : TV) rfl rfl rfl rfl rfl rfl ?_) h hr, hR⟩
        have := hP b off c w h
        rw [show decide (x ≠ 0) = true from decide_eq_true hx0] at this
        exact this
  · exact .inl ⟨fun _ _ _ _ h => p_bad (p_len 2 (fun h2 b off c w h => psz_no (some ⟨b, off, none⟩) n c zs w f h.1 hx (by omega) h2 h0 hf) (by omega)) h, fun b off c w h => rpx_len b off f n c m w (h.cell h1).1 (hc0 h) h8 hf255 h1 h2⟩
end

theorem wordsAt_behind (zs : List Int) (l k : Nat) : wordsAt (zs.drop l) 0 k = wordsAt zs l k := by
  unfold wordsAt
  apply List.map_congr_left
  intro i _
  unfold wordAt
  simp only [List.getD_eq_getElem?_getD, List.getElem?_drop, Nat.zero_add, Nat.add_assoc]
theorem size_nums (zs : List Int) : (strOfNums zs).size = zs.length := by
  simp [strOfNums, ByteArray.size]
theorem parseO_sizes : ∀ (n : Nat) (zs : List Int) (os : List Ob), parseO n zs = some os → ∀ o ∈ os, o.2.size ≤ zs.length := by
  intro n
  induction n with
  | zero =>
    intro zs os h o ho
    unfold parseO at h
    split at h
    · injection h with h
      subst h
      cases ho
    · cases h
  | succ n ih =>
    intro zs os h o ho
    unfold parseO at h
    split at h
    · cases h
    · split at h
      · cases h
      · rw [Option.map_eq_some_iff] at h
        obtain ⟨os2, h2, rfl⟩ := h
        rcases List.mem_cons.1 ho with rfl | ho
        · dsimp only
          rw [size_nums, List.length_take, List.length_drop]
          omega
        · have := ih _ _ h2 o ho
          rw [List.length_drop] at this
          omega

section
variable {zs : List Int} {n : Nat} {m : Int}

theorem agree_1 (hx : Bytes8 zs) (hn : n ≤ 300) (h1 : 1 ≤ n) (h0 : zs.getD 0 0 = 1) (m0 : -9223372036854775808 ≤ m) (m1 : m ≤ 9223372036854775807) : Agree zs n m := by
  have h8 : zs.getD 0 0 < 128 := by omega
  obtain ⟨T, hT⟩ : ∃ T : Nat, zs.getD 1 0 = (T : Int) := Int.eq_ofNat_of_zero_le (hx.at_ 1).1
  have hT255 : T ≤ 255 := by have := (hx.at_ 1).2; change zs.getD 1 0 ≤ 255 at this; omega
  by_cases hn1 : n = 1
  · exact agree_bad {} ({ fn := 1 } : TV) h1 h8 (p_few (by omega)) (fun b off c w h => bad_of_plain ({ fn := 1 } : TV) (hrd_few_1 b off n c zs m w h.1 hx (by omega) h1 h0 h.2 hn1))
  · have h2n : 2 ≤ n := by omega
    by_cases hnt : n = 2 + T
    · have heq : (T : Int) = (n : Int) - 2 := by omega
      -- the document's refusals
      have hD1 : m < 1 → ∀ b off c w, DIn zs n b off c w → TBad 40 (some ⟨b, off, none⟩) n c m ({ fn := 1 } : TV) w := fun hm b off c w h => bad_of_plain ({ fn := 1 } : TV) (hrd_lo_1 b off n c zs m (T : Int) w h.1 hx (by omega) h1 h0 h.2 h2n hT heq hm)
      have hD2 : ¬ m < 1 → 2000 < m → ∀ b off c w, DIn zs n b off c w → TBad 40 (some ⟨b, off, none⟩) n c m ({ fn := 1 } : TV) w := fun hm1 hm b off c w h => bad_of_plain ({ fn := 1 } : TV) (hrd_hi_1 b off n c zs m (T : Int) w h.1 hx (by omega) h1 h0 h.2 h2n hT heq hm1 hm)
      by_cases hno : m < 0 ∨ nbI m ≠ (T : Int)
      · have hP : ∀ b off c w, PIn zs n b off c w → TBad 38 (some ⟨b, off, none⟩) n c m ({ fn := 1 } : TV) w := fun b off c w h => bad_of_plain ({ fn := 1 } : TV) (pfl_b_no_1 b off n c zs m _ _ T w h.1 hx (by omega) h0 h.2.1 (h.2.2.1 (by omega)) rfl rfl hT hnt m0 m1 hno)
        by_cases hm1 : m < 1
        · exact agree_bad ({ fn := 1 } : TV) ({ fn := 1 } : TV) h1 h8 hP (hD1 hm1)
        · by_cases hm2 : 2000 < m
          · exact agree_bad ({ fn := 1 } : TV) ({ fn := 1 } : TV) h1 h8 hP (hD2 hm1 hm2)
          · exact agree_bad ({ fn := 1 } : TV) ({ fn := 1 } : TV) h1 h8 hP (fun b off c w h => bad_of_plain ({ fn := 1 } : TV) (hrd_no_1 b off n c zs m (T : Int) w h.1 hx (by omega) h1 h0 h.2 h2n hT heq hm1 hm2 (by rcases hno with h | h; omega; rw [show n - 2 = T by omega]; exact h)))
      · have hm0 : 0 ≤ m := by omega
        obtain ⟨k, rfl⟩ := Int.eq_ofNat_of_zero_le hm0
        have hkn : T = nb k := by
          have h : nbI (k : Int) = (T : Int) := by omega
          rw [nbI_nat] at h
          omega
        have hk : k ≤ 2040 := by unfold nb at hkn; omega
        have hf : ({ fn := 1, bl := k, bs := unb (zs.drop 2) k } : TV).Fine := ⟨⟨by dsimp only; omega, by dsimp only; omega, by dsimp only; omega, by dsimp only; omega, by dsimp only; omega, by dsimp only; omega, by dsimp only; omega, by dsimp only; omega, by dsimp only; omega, by dsimp only; omega, by dsimp only; omega, by dsimp only; omega, by dsimp only; omega, by dsimp only; omega, by dsimp only; omega, by dsimp only; omega⟩, by dsimp only; omega, by dsimp only; omega, by dsimp only; omega, fun o ho => by cases ho⟩
        have hP : ∀ b off c w, PIn zs n b off c w → TOk 38 (some ⟨b, off, none⟩) n c (k : Int) ({ fn := 1, bl := k, bs := unb (zs.drop 2) k } : TV) w := fun b off c w h => (pfl_b_yes_1 b off n c zs (k : Int) _ _ T k w h.1 hx (by omega) h0 h.2.1 (h.2.2.1 (by omega)) rfl rfl hT hnt rfl hkn).mono fun e w' h => by
          obtain ⟨G, g, he, ho, hb⟩ := h
          exact ⟨G, g, none, 0, none, 0, he, ⟨ho, own_none _ _ _, own2_none _ _ _⟩, hb⟩
        by_cases hm1 : (k : Int) < 1
        · refine agree_not _ ({ fn := 1 } : TV) h1 h8 hf ?_ hP (hD1 hm1)
          unfold TV.right tellP rangT
          dsimp only
          omega
        · by_cases hm2 : 2000 < (k : Int)
          · refine agree_not _ ({ fn := 1 } : TV) h1 h8 hf ?_ hP (hD2 hm1 hm2)
            unfold TV.right tellP rangT
            dsimp only
            omega
          · exact agree_ok _ h1 h8 hf hP (fun b off c w h => (hrd_yes_1 b off n c zs (k : Int) (T : Int) k w h.1 hx (by omega) h1 h0 h.2 h2n hT heq hm1 hm2 rfl (by omega)).mono fun e w' h => by
              obtain ⟨G, g, he, ho, hb⟩ := h
              exact ⟨G, g, none, 0, none, 0, he, ⟨ho, own_none _ _ _, own2_none _ _ _⟩, hb⟩)
    · exact agree_bad {} ({ fn := 1 } : TV) h1 h8 (p_len (2 + (T : Int)) (fun h2 b off c w h => psz_list (some ⟨b, off, none⟩) n c zs w 1 (T : Int) h.1 hx (by omega) h2 h0 (by omega) hT) (by omega)) (fun b off c w h => bad_of_plain ({ fn := 1 } : TV) (hrd_len_1 b off n c zs m (T : Int) w h.1 hx (by omega) h1 h0 h.2 h2n hT (by omega)))

theorem agree_2 (hx : Bytes8 zs) (hn : n ≤ 300) (h1 : 1 ≤ n) (h0 : zs.getD 0 0 = 2) (m0 : -9223372036854775808 ≤ m) (m1 : m ≤ 9223372036854775807) : Agree zs n m := by
  have h8 : zs.getD 0 0 < 128 := by omega
  obtain ⟨T, hT⟩ : ∃ T : Nat, zs.getD 1 0 = (T : Int) := Int.eq_ofNat_of_zero_le (hx.at_ 1).1
  have hT255 : T ≤ 255 := by have := (hx.at_ 1).2; change zs.getD 1 0 ≤ 255 at this; omega
  by_cases hn1 : n = 1
  · exact agree_bad {} ({ fn := 2 } : TV) h1 h8 (p_few (by omega)) (fun b off c w h => bad_of_plain ({ fn := 2 } : TV) (hrd_few_2 b off n c zs m w h.1 hx (by omega) h1 h0 h.2 hn1))
  · have h2n : 2 ≤ n := by omega
    by_cases hnt : n = 2 + T
    · have heq : (T : Int) = (n : Int) - 2 := by omega
      -- the document's refusals
      have hD1 : m < 1 → ∀ b off c w, DIn zs n b off c w → TBad 40 (some ⟨b, off, none⟩) n c m ({ fn := 2 } : TV) w := fun hm b off c w h => bad_of_plain ({ fn := 2 } : TV) (hrd_lo_2 b off n c zs m (T : Int) w h.1 hx (by omega) h1 h0 h.2 h2n hT heq hm)
      have hD2 : ¬ m < 1 → 2000 < m → ∀ b off c w, DIn zs n b off c w → TBad 40 (some ⟨b, off, none⟩) n c m ({ fn := 2 } : TV) w := fun hm1 hm b off c w h => bad_of_plain ({ fn := 2 } : TV) (hrd_hi_2 b off n c zs m (T : Int) w h.1 hx (by omega) h1 h0 h.2 h2n hT heq hm1 hm)
      by_cases hno : m < 0 ∨ nbI m ≠ (T : Int)
      · have hP : ∀ b off c w, PIn zs n b off c w → TBad 38 (some ⟨b, off, none⟩) n c m ({ fn := 2 } : TV) w := fun b off c w h => bad_of_plain ({ fn := 2 } : TV) (pfl_b_no_2 b off n c zs m _ _ T w h.1 hx (by omega) h0 h.2.1 (h.2.2.1 (by omega)) rfl rfl hT hnt m0 m1 hno)
        by_cases hm1 : m < 1
        · exact agree_bad ({ fn := 2 } : TV) ({ fn := 2 } : TV) h1 h8 hP (hD1 hm1)
        · by_cases hm2 : 2000 < m
          · exact agree_bad ({ fn := 2 } : TV) ({ fn := 2 } : TV) h1 h8 hP (hD2 hm1 hm2)
          · exact agree_bad ({ fn := 2 } : TV) ({ fn := 2 } : TV) h1 h8 hP (fun b off c w h => bad_of_plain ({ fn := 2 } : TV) (hrd_no_2 b off n c zs m (T : Int) w h.1 hx (by omega) h1 h0 h.2 h2n hT heq hm1 hm2 (by rcases hno with h | h; omega; rw [show n - 2 = T by omega]; exact h)))
      · have hm0 : 0 ≤ m := by omega
        obtain ⟨k, rfl⟩ := Int.eq_ofNat_of_zero_le hm0
        have hkn : T = nb k := by
          have h : nbI (k : Int) = (T : Int) := by omega
          rw [nbI_nat] at h
          omega
        have hk : k ≤ 2040 := by unfold nb at hkn; omega
        have hf : ({ fn := 2, bl := k, bs := unb (zs.drop 2) k } : TV).Fine := ⟨⟨by dsimp only; omega, by dsimp only; omega, by dsimp only; omega, by dsimp only; omega, by dsimp only; omega, by dsimp only; omega, by dsimp only; omega, by dsimp only; omega, by dsimp only; omega, by dsimp only; omega, by dsimp only; omega, by dsimp only; omega, by dsimp only; omega, by dsimp only; omega, by dsimp only; omega, by dsimp only; omega⟩, by dsimp only; omega, by dsimp only; omega, by dsimp only; omega, fun o ho => by cases ho⟩
        have hP : ∀ b off c w, PIn zs n b off c w → TOk 38 (some ⟨b, off, none⟩) n c (k : Int) ({ fn := 2, bl := k, bs := unb (zs.drop 2) k } : TV) w := fun b off c w h => (pfl_b_yes_2 b off n c zs (k : Int) _ _ T k w h.1 hx (by omega) h0 h.2.1 (h.2.2.1 (by omega)) rfl rfl hT hnt rfl hkn).mono fun e w' h => by
          obtain ⟨G, g, he, ho, hb⟩ := h
          exact ⟨G, g, none, 0, none, 0, he, ⟨ho, own_none _ _ _, own2_none _ _ _⟩, hb⟩
        by_cases hm1 : (k : Int) < 1
        · refine agree_not _ ({ fn := 2 } : TV) h1 h8 hf ?_ hP (hD1 hm1)
          unfold TV.right tellP rangT
          dsimp only
          omega
        · by_cases hm2 : 2000 < (k : Int)
          · refine agree_not _ ({ fn := 2 } : TV) h1 h8 hf ?_ hP (hD2 hm1 hm2)
            unfold TV.right tellP rangT
            dsimp only
            omega
          · exact agree_ok _ h1 h8 hf hP (fun b off c w h => (hrd_yes_2 b off n c zs (k : Int) (T : Int) k w h.1 hx (by omega) h1 h0 h.2 h2n hT heq hm1 hm2 rfl (by omega)).mono fun e w' h => by
              obtain ⟨G, g, he, ho, hb⟩ := h
              exact ⟨G, g, none, 0, none, 0, he, ⟨ho, own_none _ _ _, own2_none _ _ _⟩, hb⟩)
    · exact agree_bad {} ({ fn := 2 } : TV) h1 h8 (p_len (2 + (T : Int)) (fun h2 b off c w h => psz_list (some ⟨b, off, none⟩) n c zs w 2 (T : Int) h.1 hx (by omega) h2 h0 (by omega) hT) (by omega)) (fun b off c w h => bad_of_plain ({ fn := 2 } : TV) (hrd_len_2 b off n c zs m (T : Int) w h.1 hx (by omega) h1 h0 h.2 h2n hT (by omega)))

theorem agree_3 (hx : Bytes8 zs) (hn : n ≤ 300) (h1 : 1 ≤ n) (h0 : zs.getD 0 0 = 3) : Agree zs n m := by
  have h8 : zs.getD 0 0 < 128 := by omega
  obtain ⟨T, hT⟩ : ∃ T : Nat, zs.getD 1 0 = (T : Int) := Int.eq_ofNat_of_zero_le (hx.at_ 1).1
  have hT255 : T ≤ 255 := by have := (hx.at_ 1).2; change zs.getD 1 0 ≤ 255 at this; omega
  by_cases hn1 : n = 1
  · exact agree_bad {} ({ fn := 3 } : TV) h1 h8 (p_few (by omega)) (fun b off c w h => bad_of_plain ({ fn := 3 } : TV) (hrd_few_3 b off n c zs m w h.1 hx (by omega) h1 h0 h.2 hn1))
  · have h2n : 2 ≤ n := by omega
    by_cases hnt : n = 2 + T
    · have heq : (T : Int) = (n : Int) - 2 := by omega
      by_cases hodd : T % 2 = 1
      · exact agree_bad ({ fn := 3 } : TV) ({ fn := 3 } : TV) h1 h8 (fun b off c w h => bad_of_plain ({ fn := 3 } : TV) (pfl_w_no_3 b off n c zs m _ _ T w h.1 hx (by omega) h0 h.2.1 (h.2.2.1 (by omega)) rfl rfl hT hnt hodd))
          (fun b off c w h => bad_of_plain ({ fn := 3 } : TV) (hrw_no_3 b off n c zs m (T : Int) w h.1 hx (by omega) h1 h0 h.2 h2n hT heq (by omega)))
      · obtain ⟨k, hk⟩ : ∃ k, T = 2 * k := ⟨T / 2, by omega⟩
        have hf : ({ fn := 3, wl := k, ws := wordsAt zs 2 k } : TV).Fine := ⟨⟨by dsimp only; omega, by dsimp only; omega, by dsimp only; omega, by dsimp only; omega, by dsimp only; omega, by dsimp only; omega, by dsimp only; omega, by dsimp only; omega, by dsimp only; omega, by dsimp only; omega, by dsimp only; omega, by dsimp only; omega, by dsimp only; omega, by dsimp only; omega, by dsimp only; omega, by dsimp only; omega⟩, by dsimp only; omega, by dsimp only; omega, by dsimp only; omega, fun o ho => by cases ho⟩
        exact agree_ok _ h1 h8 hf (fun b off c w h => (pfl_w_yes_3 b off n c zs m _ _ T k w h.1 hx (by omega) h0 h.2.1 (h.2.2.1 (by omega)) rfl rfl hT hnt hk).mono fun e w' h => by
            obtain ⟨G, g, he, ho, hb⟩ := h
            rw [wordsAt_behind] at ho
            exact ⟨none, 0, G, g, none, 0, he, ⟨own_none _ _ _, ho, own2_none _ _ _⟩, hb⟩)
          (fun b off c w h => (hrw_yes_3 b off n c zs m (T : Int) k w h.1 hx (by omega) h1 h0 h.2 h2n hT heq (by omega)).mono fun e w' h => by
            obtain ⟨G, g, he, ho, hb⟩ := h
            exact ⟨none, 0, G, g, none, 0, he, ⟨own_none _ _ _, ho, own2_none _ _ _⟩, hb⟩)
    · exact agree_bad {} ({ fn := 3 } : TV) h1 h8 (p_len (2 + (T : Int)) (fun h2 b off c w h => psz_list (some ⟨b, off, none⟩) n c zs w 3 (T : Int) h.1 hx (by omega) h2 h0 (by omega) hT) (by omega)) (fun b off c w h => bad_of_plain ({ fn := 3 } : TV) (hrd_len_3 b off n c zs m (T : Int) w h.1 hx (by omega) h1 h0 h.2 h2n hT (by omega)))

theorem agree_4 (hx : Bytes8 zs) (hn : n ≤ 300) (h1 : 1 ≤ n) (h0 : zs.getD 0 0 = 4) : Agree zs n m := by
  have h8 : zs.getD 0 0 < 128 := by omega
  obtain ⟨T, hT⟩ : ∃ T : Nat, zs.getD 1 0 = (T : Int) := Int.eq_ofNat_of_zero_le (hx.at_ 1).1
  have hT255 : T ≤ 255 := by have := (hx.at_ 1).2; change zs.getD 1 0 ≤ 255 at this; omega
  by_cases hn1 : n = 1
  · exact agree_bad {} ({ fn := 4 } : TV) h1 h8 (p_few (by omega)) (fun b off c w h => bad_of_plain ({ fn := 4 } : TV) (hrd_few_4 b off n c zs m w h.1 hx (by omega) h1 h0 h.2 hn1))
  · have h2n : 2 ≤ n := by omega
    by_cases hnt : n = 2 + T
    · have heq : (T : Int) = (n : Int) - 2 := by omega
      by_cases hodd : T % 2 = 1
      · exact agree_bad ({ fn := 4 } : TV) ({ fn := 4 } : TV) h1 h8 (fun b off c w h => bad_of_plain ({ fn := 4 } : TV) (pfl_w_no_4 b off n c zs m _ _ T w h.1 hx (by omega) h0 h.2.1 (h.2.2.1 (by omega)) rfl rfl hT hnt hodd))
          (fun b off c w h => bad_of_plain ({ fn := 4 } : TV) (hrw_no_4 b off n c zs m (T : Int) w h.1 hx (by omega) h1 h0 h.2 h2n hT heq (by omega)))
      · obtain ⟨k, hk⟩ : ∃ k, T = 2 * k := ⟨T / 2, by omega⟩
        have hf : ({ fn := 4, wl := k, ws := wordsAt zs 2 k } : TV).Fine := ⟨⟨by dsimp only; omega, by dsimp only; omega, by dsimp only; omega, by dsimp only; omega, by dsimp only; omega, by dsimp only; omega, by dsimp only; omega, by dsimp only; omega, by dsimp only; omega, by dsimp only; omega, by dsimp only; omega, by dsimp only; omega, by dsimp only; omega, by dsimp only; omega, by dsimp only; omega, by dsimp only; omega⟩, by dsimp only; omega, by dsimp only; omega, by dsimp only; omega, fun o ho => by cases ho⟩
        exact agree_ok _ h1 h8 hf (fun b off c w h => (pfl_w_yes_4 b off n c zs m _ _ T k w h.1 hx (by omega) h0 h.2.1 (h.2.2.1 (by omega)) rfl rfl hT hnt hk).mono fun e w' h => by
            obtain ⟨G, g, he, ho, hb⟩ := h
            rw [wordsAt_behind] at ho
            exact ⟨none, 0, G, g, none, 0, he, ⟨own_none _ _ _, ho, own2_none _ _ _⟩, hb⟩)
          (fun b off c w h => (hrw_yes_4 b off n c zs m (T : Int) k w h.1 hx (by omega) h1 h0 h.2 h2n hT heq (by omega)).mono fun e w' h => by
            obtain ⟨G, g, he, ho, hb⟩ := h
            exact ⟨none, 0, G, g, none, 0, he, ⟨own_none _ _ _, ho, own2_none _ _ _⟩, hb⟩)
    · exact agree_bad {} ({ fn := 4 } : TV) h1 h8 (p_len (2 + (T : Int)) (fun h2 b off c w h => psz_list (some ⟨b, off, none⟩) n c zs w 4 (T : Int) h.1 hx (by omega) h2 h0 (by omega) hT) (by omega)) (fun b off c w h => bad_of_plain ({ fn := 4 } : TV) (hrd_len_4 b off n c zs m (T : Int) w h.1 hx (by omega) h1 h0 h.2 h2n hT (by omega)))

theorem agree_23 (hx : Bytes8 zs) (hn : n ≤ 300) (h1 : 1 ≤ n) (h0 : zs.getD 0 0 = 23) : Agree zs n m := by
  have h8 : zs.getD 0 0 < 128 := by omega
  obtain ⟨T, hT⟩ : ∃ T : Nat, zs.getD 1 0 = (T : Int) := Int.eq_ofNat_of_zero_le (hx.at_ 1).1
  have hT255 : T ≤ 255 := by have := (hx.at_ 1).2; change zs.getD 1 0 ≤ 255 at this; omega
  by_cases hn1 : n = 1
  · exact agree_bad {} ({ fn := 23 } : TV) h1 h8 (p_few (by omega)) (fun b off c w h => bad_of_plain ({ fn := 23 } : TV) (hrd_few_23 b off n c zs m w h.1 hx (by omega) h1 h0 h.2 hn1))
  · have h2n : 2 ≤ n := by omega
    by_cases hnt : n = 2 + T
    · have heq : (T : Int) = (n : Int) - 2 := by omega
      by_cases hodd : T % 2 = 1
      · exact agree_bad ({ fn := 23 } : TV) ({ fn := 23 } : TV) h1 h8 (fun b off c w h => bad_of_plain ({ fn := 23 } : TV) (pfl_w_no_23 b off n c zs m _ _ T w h.1 hx (by omega) h0 h.2.1 (h.2.2.1 (by omega)) rfl rfl hT hnt hodd))
          (fun b off c w h => bad_of_plain ({ fn := 23 } : TV) (hrw_no_23 b off n c zs m (T : Int) w h.1 hx (by omega) h1 h0 h.2 h2n hT heq (by omega)))
      · obtain ⟨k, hk⟩ : ∃ k, T = 2 * k := ⟨T / 2, by omega⟩
        have hf : ({ fn := 23, wl := k, ws := wordsAt zs 2 k } : TV).Fine := ⟨⟨by dsimp only; omega, by dsimp only; omega, by dsimp only; omega, by dsimp only; omega, by dsimp only; omega, by dsimp only; omega, by dsimp only; omega, by dsimp only; omega, by dsimp only; omega, by dsimp only; omega, by dsimp only; omega, by dsimp only; omega, by dsimp only; omega, by dsimp only; omega, by dsimp only; omega, by dsimp only; omega⟩, by dsimp only; omega, by dsimp only; omega, by dsimp only; omega, fun o ho => by cases ho⟩
        exact agree_ok _ h1 h8 hf (fun b off c w h => (pfl_w_yes_23 b off n c zs m _ _ T k w h.1 hx (by omega) h0 h.2.1 (h.2.2.1 (by omega)) rfl rfl hT hnt hk).mono fun e w' h => by
            obtain ⟨G, g, he, ho, hb⟩ := h
            rw [wordsAt_behind] at ho
            exact ⟨none, 0, G, g, none, 0, he, ⟨own_none _ _ _, ho, own2_none _ _ _⟩, hb⟩)
          (fun b off c w h => (hrw_yes_23 b off n c zs m (T : Int) k w h.1 hx (by omega) h1 h0 h.2 h2n hT heq (by omega)).mono fun e w' h => by
            obtain ⟨G, g, he, ho, hb⟩ := h
            exact ⟨none, 0, G, g, none, 0, he, ⟨own_none _ _ _, ho, own2_none _ _ _⟩, hb⟩)
    · exact agree_bad {} ({ fn := 23 } : TV) h1 h8 (p_len (2 + (T : Int)) (fun h2 b off c w h => psz_list (some ⟨b, off, none⟩) n c zs w 23 (T : Int) h.1 hx (by omega) h2 h0 (by omega) hT) (by omega)) (fun b off c w h => bad_of_plain ({ fn := 23 } : TV) (hrd_len_23 b off n c zs m (T : Int) w h.1 hx (by omega) h1 h0 h.2 h2n hT (by omega)))

theorem agree_43 (hx : Bytes8 zs) (hl : zs.length = n) (hn : n ≤ 300) (h1 : 1 ≤ n) (h0 : zs.getD 0 0 = 43) : Agree zs n m := by
  have h8 : zs.getD 0 0 < 128 := by omega
  by_cases h7 : n < 7
  · refine agree_bad {} ({ fn := 43 } : TV) h1 h8 (fun b off c w h => ?_) (fun b off c w h => bad_of_plain ({ fn := 43 } : TV) (hrd_43_few b off n c zs m w h.1 hx (by omega) h1 h0 h.2 h7))
    by_cases h2 : n < 2
    · exact p_few h2 b off c w h
    · exact bad_of_plain _ (pfl_43_few b off n c zs m _ _ w h.1 hx (by omega) h0 h.2.1 (h.2.2.1 (by omega)) rfl rfl (by omega) h7)
  · have h7 : 7 ≤ n := by omega
    have b2 : 0 ≤ zs.getD 2 0 ∧ zs.getD 2 0 ≤ 255 := hx.at_ 2
    have b3 : 0 ≤ zs.getD 3 0 ∧ zs.getD 3 0 ≤ 255 := hx.at_ 3
    have b5 : 0 ≤ zs.getD 5 0 ∧ zs.getD 5 0 ≤ 255 := hx.at_ 5
    obtain ⟨N, hN⟩ : ∃ N : Nat, zs.getD 6 0 = (N : Int) := Int.eq_ofNat_of_zero_le (hx.at_ 6).1
    have hN255 : N ≤ 255 := by have := (hx.at_ 6).2; change zs.getD 6 0 ≤ 255 at this; omega
    obtain ⟨z2, h2⟩ : ∃ z, zs.getD 2 0 = z := ⟨_, rfl⟩
    obtain ⟨z3, h3⟩ : ∃ z, zs.getD 3 0 = z := ⟨_, rfl⟩
    obtain ⟨z5, h5⟩ : ∃ z, zs.getD 5 0 = z := ⟨_, rfl⟩
    rw [h2] at b2
    rw [h3] at b3
    rw [h5] at b5
    by_cases hno : zs.getD 1 0 ≠ 14 ∨ (zs.getD 4 0 ≠ 0 ∧ zs.getD 4 0 ≠ 255)
    · refine agree_bad {} ({ fn := 43 } : TV) h1 h8 (fun b off c w h => bad_of_plain _ (pfl_43_no b off n c zs m _ _ w h.1 hx (by omega) h0 h.2.1 (h.2.2.1 (by omega)) rfl rfl h7 hno)) (fun b off c w h => ?_)
      by_cases h14 : zs.getD 1 0 = 14
      · have h4 : zs.getD 4 0 ≠ 0 ∧ zs.getD 4 0 ≠ 255 := by
          rcases hno with h | h
          · exact absurd h14 h
          · exact h
        exact bad_of_plain ({ fn := 43 } : TV) (hrd_43_no4 b off n c zs m w h.1 hx (by omega) h1 h0 h.2 h7 (by rw [h14]; rfl) (by simpa using h4.1) (by simpa using h4.2))
      · exact bad_of_plain ({ fn := 43 } : TV) (hrd_43_no1 b off n c zs m w h.1 hx (by omega) h1 h0 h.2 h7 (by simpa using h14))
    · have h14 : zs.getD 1 0 = 14 := by omega
      have h4 : zs.getD 4 0 = 0 ∨ zs.getD 4 0 = 255 := by omega
      rcases h4 with h4 | h4
      · have hP := fun b off c w (h : PIn zs n b off c w) => pfl_43_0 b off n c zs m _ _ z2 z3 z5 N w h.1 hx (by omega) h0 h.2.1 (h.2.2.1 (by omega)) rfl rfl h7 (by have := h.2; omega) h14 h2 h3 h4 h5 hN
        have hD := fun b off c w (h : DIn zs n b off c w) => hrd_43_0 b off n c zs m z2 z3 z5 N w h.1 hx (by omega) h1 h0 h.2 h7 h14 h2 h3 h4 h5 hN
        cases hpo : parseO N (zs.drop 7) with
        | none =>
          refine agree_bad ({ fn := 43, co := z2, le := z3, mo := false, nx := z5 } : TV) ({ fn := 43, co := z2, le := z3, mo := false, nx := z5 } : TV) h1 h8 (fun b off c w h => (hP b off c w h).mono fun e w' k => ?_) (fun b off c w h => (hD b off c w h).mono fun e w' k => ?_)
          · obtain ⟨OA, ol, oc, ok, he, hb, _, hf⟩ := k
            rw [hf hpo] at he
            exact ⟨none, 0, none, 0, OA, ol, oc, he, hb⟩
          · obtain ⟨OA, ol, oc, ok, he, hb, _, hf⟩ := k
            rw [hf hpo] at he
            exact ⟨none, 0, none, 0, OA, ol, oc, he, hb⟩
        | some os =>
          have hlen := parseO_length _ _ _ hpo
          have hsz := parseO_sizes _ _ _ hpo
          rw [List.length_drop] at hsz
          have hf : ({ fn := 43, co := z2, le := z3, mo := false, nx := z5, ol := os.length, os := os } : TV).Fine := ⟨⟨by dsimp only; omega, by dsimp only; omega, by dsimp only; omega, by dsimp only; omega, by dsimp only; omega, by dsimp only; omega, by dsimp only; omega, by dsimp only; omega, by dsimp only; omega, by dsimp only; omega, by dsimp only; omega, by dsimp only; omega, by dsimp only; omega, by dsimp only; omega, by dsimp only; omega, by dsimp only; omega⟩, by dsimp only; omega, by dsimp only; omega, by dsimp only; omega, fun o ho => by have := hsz o ho; omega⟩
          refine agree_ok ({ fn := 43, co := z2, le := z3, mo := false, nx := z5, ol := os.length, os := os } : TV) h1 h8 hf (fun b off c w h => (hP b off c w h).mono fun e w' k => ?_) (fun b off c w h => (hD b off c w h).mono fun e w' k => ?_)
          · obtain ⟨OA, ol, oc, ok, he, hb, hs, _⟩ := k
            obtain ⟨rfl, rfl, ho⟩ := hs os hpo
            exact ⟨none, 0, none, 0, OA, oc, he, ⟨own_none _ _ _, own_none _ _ _, own2_mono ho (Nat.le_add_right _ _)⟩, hb⟩
          · obtain ⟨OA, ol, oc, ok, he, hb, hs, _⟩ := k
            obtain ⟨rfl, rfl, ho⟩ := hs os hpo
            exact ⟨none, 0, none, 0, OA, oc, he, ⟨own_none _ _ _, own_none _ _ _, own2_mono ho (Nat.le_add_right _ _)⟩, hb⟩
      · have hP := fun b off c w (h : PIn zs n b off c w) => pfl_43_5 b off n c zs m _ _ z2 z3 z5 N w h.1 hx (by omega) h0 h.2.1 (h.2.2.1 (by omega)) rfl rfl h7 (by have := h.2; omega) h14 h2 h3 h4 h5 hN
        have hD := fun b off c w (h : DIn zs n b off c w) => hrd_43_5 b off n c zs m z2 z3 z5 N w h.1 hx (by omega) h1 h0 h.2 h7 h14 h2 h3 h4 h5 hN
        cases hpo : parseO N (zs.drop 7) with
        | none =>
          refine agree_bad ({ fn := 43, co := z2, le := z3, mo := true, nx := z5 } : TV) ({ fn := 43, co := z2, le := z3, mo := true, nx := z5 } : TV) h1 h8 (fun b off c w h => (hP b off c w h).mono fun e w' k => ?_) (fun b off c w h => (hD b off c w h).mono fun e w' k => ?_)
          · obtain ⟨OA, ol, oc, ok, he, hb, _, hf⟩ := k
            rw [hf hpo] at he
            exact ⟨none, 0, none, 0, OA, ol, oc, he, hb⟩
          · obtain ⟨OA, ol, oc, ok, he, hb, _, hf⟩ := k
            rw [hf hpo] at he
            exact ⟨none, 0, none, 0, OA, ol, oc, he, hb⟩
        | some os =>
          have hlen := parseO_length _ _ _ hpo
          have hsz := parseO_sizes _ _ _ hpo
          rw [List.length_drop] at hsz
          have hf : ({ fn := 43, co := z2, le := z3, mo := true, nx := z5, ol := os.length, os := os } : TV).Fine := ⟨⟨by dsimp only; omega, by dsimp only; omega, by dsimp only; omega, by dsimp only; omega, by dsimp only; omega, by dsimp only; omega, by dsimp only; omega, by dsimp only; omega, by dsimp only; omega, by dsimp only; omega, by dsimp only; omega, by dsimp only; omega, by dsimp only; omega, by dsimp only; omega, by dsimp only; omega, by dsimp only; omega⟩, by dsimp only; omega, by dsimp only; omega, by dsimp only; omega, fun o ho => by have := hsz o ho; omega⟩
          refine agree_ok ({ fn := 43, co := z2, le := z3, mo := true, nx := z5, ol := os.length, os := os } : TV) h1 h8 hf (fun b off c w h => (hP b off c w h).mono fun e w' k => ?_) (fun b off c w h => (hD b off c w h).mono fun e w' k => ?_)
          · obtain ⟨OA, ol, oc, ok, he, hb, hs, _⟩ := k
            obtain ⟨rfl, rfl, ho⟩ := hs os hpo
            exact ⟨none, 0, none, 0, OA, oc, he, ⟨own_none _ _ _, own_none _ _ _, own2_mono ho (Nat.le_add_right _ _)⟩, hb⟩
          · obtain ⟨OA, ol, oc, ok, he, hb, hs, _⟩ := k
            obtain ⟨rfl, rfl, ho⟩ := hs os hpo
            exact ⟨none, 0, none, 0, OA, oc, he, ⟨own_none _ _ _, own_none _ _ _, own2_mono ho (Nat.le_add_right _ _)⟩, hb⟩

/-- Both sides agree on any bytes. -/
theorem agree_any (hx : Bytes8 zs) (hl : zs.length = n) (hn : n ≤ 300) (h1 : 1 ≤ n) (m0 : -9223372036854775808 ≤ m) (m1 : m ≤ 9223372036854775807) : Agree zs n m := by
  have hb : 0 ≤ zs.getD 0 0 ∧ zs.getD 0 0 ≤ 255 := hx.at_ 0
  by_cases h8 : 128 ≤ zs.getD 0 0
  · exact agree_exc _ hx hn h1 rfl h8
  · rcases kinds (zs.getD 0 0) with h | h | h | h | h | h | h | h | h | h | h | h
    · exact agree_1 hx hn h1 h m0 m1
    · exact agree_2 hx hn h1 h m0 m1
    · exact agree_3 hx hn h1 h
    · exact agree_4 hx hn h1 h
    · exact agree_5 hx hn h1 h
    · exact agree_6 hx hn h1 h
    · exact agree_15 hx hn h1 h
    · exact agree_16 hx hn h1 h
    · exact agree_22 hx hn h1 h
    · exact agree_23 hx hn h1 h
    · exact agree_43 hx hl hn h1 h
    · exact agree_none _ hx hn h1 rfl h hb.1 (by omega)
end

/-- A call of Parse or of TellParse answers these numbers and lists, and this error. -/
def TRes (F : FuncId) (A : Option Addr) (n c : Nat) (m : Int) (fn ex : Int) (bl wl : Nat) (at_ q v an orr co le : Int) (mo : Bool) (nx : Int) (ol : Nat) (bs : List Bool) (ws : List Int) (os : List Ob) (E : Int) (w : World) : Prop :=
  Calls Try.prog F #[.slice A n c, .int .i64 m] w fun e w' => ∃ BA bc WA wc OA oc, e = .returned (.tuple #[.agg #[.int .i64 fn, .int .i64 ex, .slice BA bl bc, .slice WA wl wc, .int .i64 at_, .int .i64 q, .int .u16 v, .int .u16 an, .int .u16 orr, .int .i64 co, .int .i64 le, .bool mo, .int .i64 nx, .slice OA ol oc], .int .i64 E]) ∧
    w'.ownsRow w.heap.size 4 1 (.slice BA bl bc) bl (bs.map Value.bool) ∧ w'.ownsRow w.heap.size 28 1 (.slice WA wl wc) wl (ws.map (Value.int .u16)) ∧ w'.ownsRow w.heap.size 72 2 (.slice OA ol oc) ol (obs os) ∧ Below w.heap.size w w'
theorem res_zero {F : FuncId} {A : Option Addr} {n c : Nat} {m : Int} {w : World} (h : TZero F A n c m w) : TRes F A n c m 0 0 0 0 0 0 0 0 0 0 0 false 0 0 [] [] [] 2 w :=
  h.mono fun e w' h => ⟨none, 0, none, 0, none, 0, h.1, own_none _ _ _, own_none _ _ _, own2_none _ _ _, h.2⟩
theorem res_got {F : FuncId} {A : Option Addr} {n c : Nat} {m : Int} {t : TV} {w : World} (h : TGot F A n c m t w) : TRes F A n c m t.fn t.ex t.bl t.wl t.at_ t.q t.v t.an t.orr t.co t.le t.mo t.nx t.ol t.bs t.ws t.os 0 w :=
  h.mono fun e w' h => by
    obtain ⟨BA, bc, WA, wc, OA, oc, he, hr, hb⟩ := h
    exact ⟨BA, bc, WA, wc, OA, oc, he, own_mono hr.1 (Nat.le_succ _), own_mono hr.2.1 (Nat.le_succ _), own2_mono hr.2.2 (Nat.le_succ _), hb⟩

theorem ends_any (zs : List Int) (n : Nat) (m : Int) (hx : Bytes8 zs) (hl : zs.length = n) (hn : n ≤ 300) (m0 : -9223372036854775808 ≤ m) (m1 : m ≤ 9223372036854775807) :
    ∃ (fn ex : Int) (bl wl : Nat) (at_ q v an orr co le : Int) (mo : Bool) (nx : Int) (ol : Nat) (bs : List Bool) (ws : List Int) (os : List Ob) (E : Int), bl ≤ 100000 ∧ wl ≤ 100000 ∧ ol ≤ 100000 ∧
      (∀ g off c w, Row .u8 w w.heap.size (some ⟨g, off, none⟩) n zs → n < c → TRes 12 (some ⟨g, off, none⟩) n c m fn ex bl wl at_ q v an orr co le mo nx ol bs ws os E w) ∧
      ∀ A c w, Row .u8 w w.heap.size A n zs → n ≤ c → TRes 13 A n c m fn ex bl wl at_ q v an orr co le mo nx ol bs ws os E w := by
  by_cases h0 : n = 0
  · exact ⟨0, 0, 0, 0, 0, 0, 0, 0, 0, 0, 0, false, 0, 0, [], [], [], 2, by omega, by omega, by omega, fun g off c w hr hc => res_zero (p_bad (zs := zs) (p_few (by omega)) ⟨hr, by omega, by omega, by omega⟩), fun A c w hr hc => res_zero (rpx_nil A n c m w h0)⟩
  · rcases agree_any (zs := zs) (n := n) (m := m) hx hl hn (by omega) m0 m1 with ⟨hp, hd⟩ | ⟨t, hf, hp, hd⟩
    · refine ⟨0, 0, 0, 0, 0, 0, 0, 0, 0, 0, 0, false, 0, 0, [], [], [], 2, by omega, by omega, by omega, fun g off c w hr hc => res_zero (hp g off c w ⟨hr, by omega, by omega, by omega⟩), fun A c w hr hc => ?_⟩
      obtain ⟨b, off, rfl, _⟩ := hr.2 (by omega)
      exact res_zero (hd b off c w ⟨hr, hc⟩)
    · refine ⟨t.fn, t.ex, t.bl, t.wl, t.at_, t.q, t.v, t.an, t.orr, t.co, t.le, t.mo, t.nx, t.ol, t.bs, t.ws, t.os, 0, hf.bl, hf.wl, hf.ol, fun g off c w hr hc => res_got (hp g off c w ⟨hr, by omega, by omega, by omega⟩), fun A c w hr hc => ?_⟩
      obtain ⟨b, off, rfl, _⟩ := hr.2 (by omega)
      exact res_got (hd b off c w ⟨hr, hc⟩)

end Go.Proofs.Ytokljdkbheogoaa

/- Joined: LEcho LTEcho OpenAsk. -/
import Derived.Test.YtijfeffjjcbijaaREcho
import Derived.Test.YtijfeffjjcbijaaJTellEchoesQ2
import Derived.Test.YtijfeffjjcbijaaJTellEchoesQ1
import Derived.Test.YtijfeffjjcbijaaJAskBack5
import Derived.Test.YtijfeffjjcbijaaAskBytes
import Derived.Test.YtijfeffjjcbijaaAskSet
import Derived.Test.YtijfeffjjcbijaaGen
import Derived.Deep.Fields
namespace Go.Proofs.Ytijfeffjjcbijaa
open Go.ChangeShapes Go.WideShapes Go.ChangeAt Go.RowKit
set_option linter.unusedVariables false
set_option linter.unusedSimpArgs false
open Go.ChangeShapes Go.WideShapes Go.ChangeAt Go.RowKit Go.Deep

/-- A request that is right, and is confirmed. -/
def isEcho (fn at_ n v an orr : Int) (bl wl : Nat) (ra rn co ob : Int) : Prop := rightP fn at_ n v an orr bl wl ra rn co ob ∧ (fn = 5 ∨ fn = 6 ∨ fn = 15 ∨ fn = 16 ∨ fn = 22)
instance (fn at_ n v an orr : Int) (bl wl : Nat) (ra rn co ob : Int) : Decidable (isEcho fn at_ n v an orr bl wl ra rn co ob) := by unfold isEcho; infer_instance
theorem pecho_lit (fn at_ n v an orr : Int) (bl wl : Nat) (ra rn co ob : Int) (BA WA : Option Addr) (bc wc : Nat) (w : World) (f1 a1 n1 v1 x1 o1 : Int) (hw : Wide at_ n v an orr ra rn co ob) (hv : (isEcho fn at_ n v an orr bl wl ra rn co ob ∧ f1 = fn ∧ a1 = at_ ∧ n1 = n ∧ v1 = v ∧ x1 = an ∧ o1 = orr) ∨ (¬ isEcho fn at_ n v an orr bl wl ra rn co ob ∧ f1 = 0 ∧ a1 = 0 ∧ n1 = 0 ∧ v1 = 0 ∧ x1 = 0 ∧ o1 = 0)) :
    Calls Try.prog 50 #[.agg #[.int .i64 fn, .int .i64 at_, .int .i64 n, .int .u16 v, .int .u16 an, .int .u16 orr, .slice BA bl bc, .slice WA wl wc, .int .i64 ra, .int .i64 rn, .int .i64 co, .int .i64 ob]] w fun e w' => e = .returned (.agg #[.int .i64 f1, .int .i64 0, .slice none 0 0, .slice none 0 0, .int .i64 a1, .int .i64 n1, .int .u16 v1, .int .u16 x1, .int .u16 o1, .int .i64 0, .int .i64 0, .bool false, .int .i64 0, .slice none 0 0]) ∧ Below w.heap.size w w' := by
  rcases hv with ⟨he, rfl, rfl, rfl, rfl, rfl, rfl⟩ | ⟨he, rfl, rfl, rfl, rfl, rfl, rfl⟩
  · have h := (echo_right _ _ _ _ _ _ bl wl ra rn co ob).2 he
    exact pecho_yes _ _ _ _ _ _ bl wl ra rn co ob BA WA bc wc w hw h.1 h.2
  · by_cases h1 : tellP fn 0 0 0 at_ n v an orr 0 0 0 0 0 1
    · exact pecho_not fn at_ n v an orr bl wl ra rn co ob BA WA bc wc w hw h1 (fun h2 => he ((echo_right _ _ _ _ _ _ _ _ _ _ _ _).1 ⟨h1, h2⟩))
    · exact pecho_bad fn at_ n v an orr bl wl ra rn co ob BA WA bc wc w hw h1
theorem recho_lit (fn at_ n v an orr : Int) (bl wl : Nat) (ra rn co ob : Int) (BA WA : Option Addr) (bc wc : Nat) (w : World) (f1 a1 n1 v1 x1 o1 : Int) (hv : (isEcho fn at_ n v an orr bl wl ra rn co ob ∧ f1 = fn ∧ a1 = at_ ∧ n1 = n ∧ v1 = v ∧ x1 = an ∧ o1 = orr) ∨ (¬ isEcho fn at_ n v an orr bl wl ra rn co ob ∧ f1 = 0 ∧ a1 = 0 ∧ n1 = 0 ∧ v1 = 0 ∧ x1 = 0 ∧ o1 = 0)) :
    Calls Try.prog 51 #[.agg #[.int .i64 fn, .int .i64 at_, .int .i64 n, .int .u16 v, .int .u16 an, .int .u16 orr, .slice BA bl bc, .slice WA wl wc, .int .i64 ra, .int .i64 rn, .int .i64 co, .int .i64 ob]] w fun e w' => e = .returned (.agg #[.int .i64 f1, .int .i64 0, .slice none 0 0, .slice none 0 0, .int .i64 a1, .int .i64 n1, .int .u16 v1, .int .u16 x1, .int .u16 o1, .int .i64 0, .int .i64 0, .bool false, .int .i64 0, .slice none 0 0]) ∧ Below w.heap.size w w' := by
  rcases hv with ⟨⟨hr, hf⟩, rfl, rfl, rfl, rfl, rfl, rfl⟩ | ⟨he, rfl, rfl, rfl, rfl, rfl, rfl⟩
  · have hpl := hr.2.1
    unfold plainP at hpl
    rcases hf with rfl | rfl | rfl | rfl | rfl
    · obtain rfl : n1 = 0 := by omega
      obtain rfl : x1 = 0 := by omega
      obtain rfl : o1 = 0 := by omega
      exact recho_5 _ _ _ _ _ bl wl ra rn co ob BA WA bc wc w hr
    · obtain rfl : n1 = 0 := by omega
      obtain rfl : x1 = 0 := by omega
      obtain rfl : o1 = 0 := by omega
      exact recho_6 _ _ _ _ _ bl wl ra rn co ob BA WA bc wc w hr
    · obtain rfl : v1 = 0 := by omega
      obtain rfl : x1 = 0 := by omega
      obtain rfl : o1 = 0 := by omega
      exact recho_15 _ _ _ _ _ bl wl ra rn co ob BA WA bc wc w hr
    · obtain rfl : v1 = 0 := by omega
      obtain rfl : x1 = 0 := by omega
      obtain rfl : o1 = 0 := by omega
      exact recho_16 _ _ _ _ _ bl wl ra rn co ob BA WA bc wc w hr
    · obtain rfl : n1 = 0 := by omega
      obtain rfl : v1 = 0 := by omega
      exact recho_22 _ _ _ _ _ bl wl ra rn co ob BA WA bc wc w hr
  · by_cases hr : rightP fn at_ n v an orr bl wl ra rn co ob
    · have hne : ¬ (fn = 5 ∨ fn = 6 ∨ fn = 15 ∨ fn = 16 ∨ fn = 22) := fun h => he ⟨hr, h⟩
      rcases kinds fn with rfl | rfl | rfl | rfl | rfl | rfl | rfl | rfl | rfl | rfl | rfl | h
      · exact recho_1 at_ n v an orr bl wl ra rn co ob BA WA bc wc w hr
      · exact recho_2 at_ n v an orr bl wl ra rn co ob BA WA bc wc w hr
      · exact recho_3 at_ n v an orr bl wl ra rn co ob BA WA bc wc w hr
      · exact recho_4 at_ n v an orr bl wl ra rn co ob BA WA bc wc w hr
      · omega
      · omega
      · omega
      · omega
      · omega
      · exact recho_23 at_ n v an orr bl wl ra rn co ob BA WA bc wc w hr
      · exact recho_43 at_ n v an orr bl wl ra rn co ob BA WA bc wc w hr
      · have := hr.1
        rw [h.known] at this
        cases this
    · exact recho_no fn at_ n v an orr bl wl ra rn co ob BA WA bc wc w hr

theorem wbox12e (a0 a1 a2 a3 a4 a5 a6 a7 a8 a9 a10 a11 : Value) (T : TypeId) (w w' : World) (h : Below (w.heap.size + 1) (w.alloc (.cells #[a0, a1, a2, a3, a4, a5, a6, a7, a8, a9, a10, a11] T)) w') : WholeV w' w.heap.size T [a0, a1, a2, a3, a4, a5, a6, a7, a8, a9, a10, a11] := by
  have h1 : WholeV (w.alloc (.cells #[a0, a1, a2, a3, a4, a5, a6, a7, a8, a9, a10, a11] T)) w.heap.size T [a0, a1, a2, a3, a4, a5, a6, a7, a8, a9, a10, a11] := heap_alloc_new w _
  exact h1.below h (by omega)
theorem techo_many (fn at_ n y an orr : Int) (bs : List Bool) (ws : List Int) (ra rn co ob : Int) (BA WA : Option Addr) (bl wl bc wc : Nat) (k v : Int) (w : World) (hwd : Wide at_ n y an orr ra rn co ob) (k0 : -9223372036854775808 ≤ k) (k1 : k ≤ 9223372036854775807) (v0 : -9223372036854775808 ≤ v) (v1 : v ≤ 9223372036854775807) (hf : ¬ (bl ≤ 2100 ∧ wl ≤ 200)) :
    Calls Try.prog 14 #[.agg #[.int .i64 fn, .int .i64 at_, .int .i64 n, .int .u16 y, .int .u16 an, .int .u16 orr, .slice BA bl bc, .slice WA wl wc, .int .i64 ra, .int .i64 rn, .int .i64 co, .int .i64 ob], .int .i64 k, .int .i64 v] w fun e w' => e = .returned (.bool true) ∧ Below w.heap.size w w' := by
  have hq : 2100 < (bl : Int) ∨ ((bl : Int) ≤ 2100 ∧ 200 < (wl : Int)) := by omega
  clear hf hwd
  rcases hq with hq | ⟨hq1, hq2⟩
  all_goals
    go_enter Try.func14, Try.ntmps14
    go_wp2_with (first
      | (go_at_call 34; refine (awake_any _).mono ?_; rintro e w2 ⟨rfl, hb2⟩; have HB2 := Lib.hid hb2; clear hb2))
    go_ret
    exact ⟨rfl, ((Below.refl _ _).alloc (Nat.le_refl _) _).trans (HB2.out.mono (by simp))⟩

set_option maxRecDepth 100000 in
set_option maxHeartbeats 2000000 in
theorem techo_few (fn at_ n y an orr : Int) (bs : List Bool) (ws : List Int) (ra rn co ob : Int) (BA WA : Option Addr) (bl wl bc wc : Nat) (k v : Int) (w : World) (hwd : Wide at_ n y an orr ra rn co ob) (k0 : -9223372036854775808 ≤ k) (k1 : k ≤ 9223372036854775807) (v0 : -9223372036854775808 ≤ v) (v1 : v ≤ 9223372036854775807) (hf : bl ≤ 2100 ∧ wl ≤ 200) :
    Calls Try.prog 14 #[.agg #[.int .i64 fn, .int .i64 at_, .int .i64 n, .int .u16 y, .int .u16 an, .int .u16 orr, .slice BA bl bc, .slice WA wl wc, .int .i64 ra, .int .i64 rn, .int .i64 co, .int .i64 ob], .int .i64 k, .int .i64 v] w fun e w' => e = .returned (.bool true) ∧ Below w.heap.size w w' := by
  have hq1 : (bl : Int) ≤ 2100 := by omega
  have hq2 : (wl : Int) ≤ 200 := by omega
  have hd1 : decide (2100 < (bl : Int)) = false := by simp; omega
  have hd2 : decide (200 < (wl : Int)) = false := by simp; omega
  have HWd := Lib.hid hwd
  clear hf hwd
  obtain ⟨e1, e2, e3, e4, e5, e6, hEa⟩ : ∃ e1 e2 e3 e4 e5 e6 : Int, (isEcho fn at_ n y an orr bl wl ra rn co ob ∧ e1 = fn ∧ e2 = at_ ∧ e3 = n ∧ e4 = y ∧ e5 = an ∧ e6 = orr) ∨ (¬ isEcho fn at_ n y an orr bl wl ra rn co ob ∧ e1 = 0 ∧ e2 = 0 ∧ e3 = 0 ∧ e4 = 0 ∧ e5 = 0 ∧ e6 = 0) := by
    by_cases h : isEcho fn at_ n y an orr bl wl ra rn co ob
    · exact ⟨_, _, _, _, _, _, .inl ⟨h, rfl, rfl, rfl, rfl, rfl, rfl⟩⟩
    · exact ⟨_, _, _, _, _, _, .inr ⟨h, rfl, rfl, rfl, rfl, rfl, rfl⟩⟩
  have HEa := Lib.hid hEa
  clear hEa
  go_enter Try.func14, Try.ntmps14
  go_wp2_with fail
  refine (awake_any _).mono ?_
  rintro e w1 ⟨rfl, hb1⟩
  have hk1 : Below (w.heap.size + 1) (w.alloc (.cells #[.int .i64 fn, .int .i64 at_, .int .i64 n, .int .u16 y, .int .u16 an, .int .u16 orr, .slice BA bl bc, .slice WA wl wc, .int .i64 ra, .int .i64 rn, .int .i64 co, .int .i64 ob] 26)) w1 := by
    rwa [show (w.alloc (.cells #[.int .i64 fn, .int .i64 at_, .int .i64 n, .int .u16 y, .int .u16 an, .int .u16 orr, .slice BA bl bc, .slice WA wl wc, .int .i64 ra, .int .i64 rn, .int .i64 co, .int .i64 ob] 26)).heap.size = w.heap.size + 1 by simp] at hb1
  have ha1 := wbox12e _ _ _ _ _ _ _ _ _ _ _ _ _ w w1 hk1
  have hy1 : w.heap.size < w1.heap.size := ha1.lt
  obtain ⟨ca0, ca1, ca2, ca3, ca4, ca5, ca6, ca7, ca8, ca9, ca10, ca11⟩ := cells12 ha1
  have HA1 := Lib.hid ha1
  have HB1 : Hid (Below w.heap.size w w1) := ((Below.refl _ _).alloc (Nat.le_refl _) _).trans (hb1.mono (by simp))
  clear hb1 hk1 ha1
  go_wp2_with fail
  refine (lask_any k v _ k0 k1 v0 v1).mono ?_
  rintro e w2 ⟨f2, a2, n2, y2, b2, o2, bl2, wl2, r2, m2, c2, j2, B2, W2, bd, wd, bs2, ws2, rfl, hrt2, hwd2, hws2, hob2, how2, hb2⟩
  obtain rfl : bs2.length = bl2 := (own_row hob2).bools.1
  obtain rfl : ws2.length = wl2 := (own_row how2).ints.1
  have HB2 := Lib.hid (HB1.out.trans (hb2.mono HB1.out.size))
  have HRt2 := Lib.hid hrt2
  have HWd2 := Lib.hid hwd2
  have HWs2 := Lib.hid hws2
  have hk2 : Below w2.heap.size w2 (w2.alloc (.cells #[.int .i64 f2, .int .i64 a2, .int .i64 n2, .int .u16 y2, .int .u16 b2, .int .u16 o2, .slice B2 bs2.length bd, .slice W2 ws2.length wd, .int .i64 r2, .int .i64 m2, .int .i64 c2, .int .i64 j2] 26)) := (Below.refl _ _).alloc (Nat.le_refl _) _
  have HBr := Lib.hid (((own_row hob2).bools.below hk2).more hk2.size)
  have HWr := Lib.hid (((own_row how2).ints.below hk2).more hk2.size)
  have HAx := Lib.hid ((HA1.out.below hb2 HA1.out.lt).below hk2 (HA1.out.below hb2 HA1.out.lt).lt)
  have hcx : WholeV (w2.alloc (.cells #[.int .i64 f2, .int .i64 a2, .int .i64 n2, .int .u16 y2, .int .u16 b2, .int .u16 o2, .slice B2 bs2.length bd, .slice W2 ws2.length wd, .int .i64 r2, .int .i64 m2, .int .i64 c2, .int .i64 j2] 26)) w2.heap.size 26 [.int .i64 f2, .int .i64 a2, .int .i64 n2, .int .u16 y2, .int .u16 b2, .int .u16 o2, .slice B2 bs2.length bd, .slice W2 ws2.length wd, .int .i64 r2, .int .i64 m2, .int .i64 c2, .int .i64 j2] := heap_alloc_new w2 _
  have HCx := Lib.hid hcx
  have HBx := Lib.hid (HB2.out.trans (hk2.mono HB2.out.size))
  have hne2 : w.heap.size < w2.heap.size := Nat.lt_of_lt_of_le HA1.out.lt hb2.size
  clear hrt2 hwd2 hws2 hob2 how2 hb2 hk2 hcx
  obtain ⟨g1, g2, g3, g4, g5, g6, hEc⟩ : ∃ g1 g2 g3 g4 g5 g6 : Int, (isEcho f2 a2 n2 y2 b2 o2 bs2.length ws2.length r2 m2 c2 j2 ∧ g1 = f2 ∧ g2 = a2 ∧ g3 = n2 ∧ g4 = y2 ∧ g5 = b2 ∧ g6 = o2) ∨ (¬ isEcho f2 a2 n2 y2 b2 o2 bs2.length ws2.length r2 m2 c2 j2 ∧ g1 = 0 ∧ g2 = 0 ∧ g3 = 0 ∧ g4 = 0 ∧ g5 = 0 ∧ g6 = 0) := by
    by_cases h : isEcho f2 a2 n2 y2 b2 o2 bs2.length ws2.length r2 m2 c2 j2
    · exact ⟨_, _, _, _, _, _, .inl ⟨h, rfl, rfl, rfl, rfl, rfl, rfl⟩⟩
    · exact ⟨_, _, _, _, _, _, .inr ⟨h, rfl, rfl, rfl, rfl, rfl, rfl⟩⟩
  have HEc := Lib.hid hEc
  clear hEc
  go_wp2_with fail
  refine (pecho_lit f2 a2 n2 y2 b2 o2 bs2.length ws2.length r2 m2 c2 j2 B2 W2 bd wd _ g1 g2 g3 g4 g5 g6 HWd2.out HEc.out).mono ?_
  rintro e w3 ⟨rfl, hb3⟩
  have hk3 : Below w3.heap.size w3 (w3.alloc (.cells #[.int .i64 g1, .int .i64 0, .slice none 0 0, .slice none 0 0, .int .i64 g2, .int .i64 g3, .int .u16 g4, .int .u16 g5, .int .u16 g6, .int .i64 0, .int .i64 0, .bool false, .int .i64 0, .slice none 0 0] 64)) := (Below.refl _ _).alloc (Nat.le_refl _) _
  have hb3x := hb3.trans (hk3.mono hb3.size)
  have hta : WholeV (w3.alloc (.cells #[.int .i64 g1, .int .i64 0, .slice none 0 0, .slice none 0 0, .int .i64 g2, .int .i64 g3, .int .u16 g4, .int .u16 g5, .int .u16 g6, .int .i64 0, .int .i64 0, .bool false, .int .i64 0, .slice none 0 0] 64)) w3.heap.size 64 [.int .i64 g1, .int .i64 0, .slice none 0 0, .slice none 0 0, .int .i64 g2, .int .i64 g3, .int .u16 g4, .int .u16 g5, .int .u16 g6, .int .i64 0, .int .i64 0, .bool false, .int .i64 0, .slice none 0 0] := heap_alloc_new w3 _
  have haa := HAx.out.below hb3 HAx.out.lt
  have hcc := HCx.out.below hb3 HCx.out.lt
  have HT3 := Lib.hid hta
  have HA3 := Lib.hid (HAx.out.below hb3x HAx.out.lt)
  have HC3 := Lib.hid (HCx.out.below hb3x HCx.out.lt)
  have HBr3 := Lib.hid ((HBr.out.below hb3x).more hb3x.size)
  have HWr3 := Lib.hid ((HWr.out.below hb3x).more hb3x.size)
  have HB3 := Lib.hid (HBx.out.trans (hb3x.mono HBx.out.size))
  obtain ⟨da0, da1, da2, da3, da4, da5, da6, da7, da8, da9, da10, da11⟩ := cells12 haa
  obtain ⟨db0, db1, db2, db3, db4, db5, db6, db7, db8, db9, db10, db11⟩ := cells12 hcc
  have hz3 : w2.heap.size < w3.heap.size := hcc.lt
  have hz3a : w.heap.size < w3.heap.size := haa.lt
  clear hb3 hk3 hb3x hta haa hcc
  go_wp2_with fail
  obtain ⟨X0, hX0⟩ : ∃ X0, (w3.alloc (.cells #[.int .i64 g1, .int .i64 0, .slice none 0 0, .slice none 0 0, .int .i64 g2, .int .i64 g3, .int .u16 g4, .int .u16 g5, .int .u16 g6, .int .i64 0, .int .i64 0, .bool false, .int .i64 0, .slice none 0 0] 64)) = X0 := ⟨_, rfl⟩
  rw [hX0] at HT3 HA3 HC3 HBr3 HWr3 HB3
  rw [hX0]
  clear hX0
  have KS : Hid (∀ X, Below X0.heap.size X0 X → (X.cell? ⟨w.heap.size, 0, none⟩ = some (.int .i64 fn) ∧ X.cell? ⟨w.heap.size, 1, none⟩ = some (.int .i64 at_) ∧ X.cell? ⟨w.heap.size, 2, none⟩ = some (.int .i64 n) ∧ X.cell? ⟨w.heap.size, 3, none⟩ = some (.int .u16 y) ∧ X.cell? ⟨w.heap.size, 4, none⟩ = some (.int .u16 an) ∧ X.cell? ⟨w.heap.size, 5, none⟩ = some (.int .u16 orr) ∧ X.cell? ⟨w.heap.size, 6, none⟩ = some (.slice BA bl bc) ∧ X.cell? ⟨w.heap.size, 7, none⟩ = some (.slice WA wl wc) ∧ X.cell? ⟨w.heap.size, 8, none⟩ = some (.int .i64 ra) ∧ X.cell? ⟨w.heap.size, 9, none⟩ = some (.int .i64 rn) ∧ X.cell? ⟨w.heap.size, 10, none⟩ = some (.int .i64 co) ∧ X.cell? ⟨w.heap.size, 11, none⟩ = some (.int .i64 ob) ∧ X.cell? ⟨w2.heap.size, 0, none⟩ = some (.int .i64 f2) ∧ X.cell? ⟨w2.heap.size, 1, none⟩ = some (.int .i64 a2) ∧ X.cell? ⟨w2.heap.size, 2, none⟩ = some (.int .i64 n2) ∧ X.cell? ⟨w2.heap.size, 3, none⟩ = some (.int .u16 y2) ∧ X.cell? ⟨w2.heap.size, 4, none⟩ = some (.int .u16 b2) ∧ X.cell? ⟨w2.heap.size, 5, none⟩ = some (.int .u16 o2) ∧ X.cell? ⟨w2.heap.size, 6, none⟩ = some (.slice B2 bs2.length bd) ∧ X.cell? ⟨w2.heap.size, 7, none⟩ = some (.slice W2 ws2.length wd) ∧ X.cell? ⟨w2.heap.size, 8, none⟩ = some (.int .i64 r2) ∧ X.cell? ⟨w2.heap.size, 9, none⟩ = some (.int .i64 m2) ∧ X.cell? ⟨w2.heap.size, 10, none⟩ = some (.int .i64 c2) ∧ X.cell? ⟨w2.heap.size, 11, none⟩ = some (.int .i64 j2) ∧ X.cell? ⟨w3.heap.size, 0, none⟩ = some (.int .i64 g1) ∧ X.cell? ⟨w3.heap.size, 1, none⟩ = some (.int .i64 0) ∧ X.cell? ⟨w3.heap.size, 2, none⟩ = some (.slice none 0 0) ∧ X.cell? ⟨w3.heap.size, 3, none⟩ = some (.slice none 0 0) ∧ X.cell? ⟨w3.heap.size, 4, none⟩ = some (.int .i64 g2) ∧ X.cell? ⟨w3.heap.size, 5, none⟩ = some (.int .i64 g3) ∧ X.cell? ⟨w3.heap.size, 6, none⟩ = some (.int .u16 g4) ∧ X.cell? ⟨w3.heap.size, 7, none⟩ = some (.int .u16 g5) ∧ X.cell? ⟨w3.heap.size, 8, none⟩ = some (.int .u16 g6) ∧ X.cell? ⟨w3.heap.size, 9, none⟩ = some (.int .i64 0) ∧ X.cell? ⟨w3.heap.size, 10, none⟩ = some (.int .i64 0) ∧ X.cell? ⟨w3.heap.size, 11, none⟩ = some (.bool false) ∧ X.cell? ⟨w3.heap.size, 12, none⟩ = some (.int .i64 0) ∧ X.cell? ⟨w3.heap.size, 13, none⟩ = some (.slice none 0 0) ∧ Below X0.heap.size X0 X)) := by
    intro X hX
    obtain ⟨ka0, ka1, ka2, ka3, ka4, ka5, ka6, ka7, ka8, ka9, ka10, ka11⟩ := cells12 (HA3.out.below hX HA3.out.lt)
    obtain ⟨kb0, kb1, kb2, kb3, kb4, kb5, kb6, kb7, kb8, kb9, kb10, kb11⟩ := cells12 (HC3.out.below hX HC3.out.lt)
    obtain ⟨kc0, kc1, kc2, kc3, kc4, kc5, kc6, kc7, kc8, kc9, kc10, kc11, kc12, kc13⟩ := cells14 (HT3.out.below hX HT3.out.lt)
    exact ⟨ka0, ka1, ka2, ka3, ka4, ka5, ka6, ka7, ka8, ka9, ka10, ka11, kb0, kb1, kb2, kb3, kb4, kb5, kb6, kb7, kb8, kb9, kb10, kb11, kc0, kc1, kc2, kc3, kc4, kc5, kc6, kc7, kc8, kc9, kc10, kc11, kc12, kc13, hX⟩
  go_region_held3 (fun X => X.cell? ⟨w.heap.size, 0, none⟩ = some (.int .i64 fn) ∧ X.cell? ⟨w.heap.size, 1, none⟩ = some (.int .i64 at_) ∧ X.cell? ⟨w.heap.size, 2, none⟩ = some (.int .i64 n) ∧ X.cell? ⟨w.heap.size, 3, none⟩ = some (.int .u16 y) ∧ X.cell? ⟨w.heap.size, 4, none⟩ = some (.int .u16 an) ∧ X.cell? ⟨w.heap.size, 5, none⟩ = some (.int .u16 orr) ∧ X.cell? ⟨w.heap.size, 6, none⟩ = some (.slice BA bl bc) ∧ X.cell? ⟨w.heap.size, 7, none⟩ = some (.slice WA wl wc) ∧ X.cell? ⟨w.heap.size, 8, none⟩ = some (.int .i64 ra) ∧ X.cell? ⟨w.heap.size, 9, none⟩ = some (.int .i64 rn) ∧ X.cell? ⟨w.heap.size, 10, none⟩ = some (.int .i64 co) ∧ X.cell? ⟨w.heap.size, 11, none⟩ = some (.int .i64 ob) ∧ X.cell? ⟨w2.heap.size, 0, none⟩ = some (.int .i64 f2) ∧ X.cell? ⟨w2.heap.size, 1, none⟩ = some (.int .i64 a2) ∧ X.cell? ⟨w2.heap.size, 2, none⟩ = some (.int .i64 n2) ∧ X.cell? ⟨w2.heap.size, 3, none⟩ = some (.int .u16 y2) ∧ X.cell? ⟨w2.heap.size, 4, none⟩ = some (.int .u16 b2) ∧ X.cell? ⟨w2.heap.size, 5, none⟩ = some (.int .u16 o2) ∧ X.cell? ⟨w2.heap.size, 6, none⟩ = some (.slice B2 bs2.length bd) ∧ X.cell? ⟨w2.heap.size, 7, none⟩ = some (.slice W2 ws2.length wd) ∧ X.cell? ⟨w2.heap.size, 8, none⟩ = some (.int .i64 r2) ∧ X.cell? ⟨w2.heap.size, 9, none⟩ = some (.int .i64 m2) ∧ X.cell? ⟨w2.heap.size, 10, none⟩ = some (.int .i64 c2) ∧ X.cell? ⟨w2.heap.size, 11, none⟩ = some (.int .i64 j2) ∧ X.cell? ⟨w3.heap.size, 0, none⟩ = some (.int .i64 g1) ∧ X.cell? ⟨w3.heap.size, 1, none⟩ = some (.int .i64 0) ∧ X.cell? ⟨w3.heap.size, 2, none⟩ = some (.slice none 0 0) ∧ X.cell? ⟨w3.heap.size, 3, none⟩ = some (.slice none 0 0) ∧ X.cell? ⟨w3.heap.size, 4, none⟩ = some (.int .i64 g2) ∧ X.cell? ⟨w3.heap.size, 5, none⟩ = some (.int .i64 g3) ∧ X.cell? ⟨w3.heap.size, 6, none⟩ = some (.int .u16 g4) ∧ X.cell? ⟨w3.heap.size, 7, none⟩ = some (.int .u16 g5) ∧ X.cell? ⟨w3.heap.size, 8, none⟩ = some (.int .u16 g6) ∧ X.cell? ⟨w3.heap.size, 9, none⟩ = some (.int .i64 0) ∧ X.cell? ⟨w3.heap.size, 10, none⟩ = some (.int .i64 0) ∧ X.cell? ⟨w3.heap.size, 11, none⟩ = some (.bool false) ∧ X.cell? ⟨w3.heap.size, 12, none⟩ = some (.int .i64 0) ∧ X.cell? ⟨w3.heap.size, 13, none⟩ = some (.slice none 0 0) ∧ Below X0.heap.size X0 X)
      (first
        | exact KS.out _ (Below.refl _ _).drew
        | exact KS.out _ hu5
        | exact KS.out _ hu4
        | exact KS.out _ hu3
        | exact KS.out _ hu2
        | exact KS.out _ hu1)
      (first
        | (go_at_call 50
           (with_reducible refine (pecho_lit fn at_ n y an orr bl wl ra rn co ob BA WA bc wc _ e1 e2 e3 e4 e5 e6 HWd.out HEa.out).mono ?_)
           rintro e u1 ⟨rfl, hv1⟩
           have hu1 : Below X0.heap.size X0 u1 := by first | exact below_from (d := 1) hv1 | exact hv1
           clear hv1)
        | (go_at_call 51
           (with_reducible refine (recho_lit fn at_ n y an orr bl wl ra rn co ob BA WA bc wc _ e1 e2 e3 e4 e5 e6 HEa.out).mono ?_)
           rintro e u2 ⟨rfl, hv2⟩
           have hu2 : Below X0.heap.size X0 u2 := hu1.trans (hv2.mono hu1.size)
           clear hv2)
        | (go_at_call 47
           (with_reducible refine (sametell_bare e1 0 e2 e3 e4 e5 e6 _).mono ?_)
           rintro e u3 ⟨rfl, hv3⟩
           have hu3 : Below X0.heap.size X0 u3 := hu2.trans (hv3.mono hu2.size)
           clear hv3)
        | (go_at_call 51
           (with_reducible refine (recho_lit f2 a2 n2 y2 b2 o2 bs2.length ws2.length r2 m2 c2 j2 B2 W2 bd wd _ g1 g2 g3 g4 g5 g6 HEc.out).mono ?_)
           rintro e u4 ⟨rfl, hv4⟩
           have hu4 : Below X0.heap.size X0 u4 := hu3.trans (hv4.mono hu3.size)
           clear hv4)
        | (go_at_call 47
           (with_reducible refine (sametell_bare g1 0 g2 g3 g4 g5 g6 _).mono ?_)
           rintro e u5 ⟨rfl, hv5⟩
           have hu5 : Below X0.heap.size X0 u5 := hu4.trans (hv5.mono hu4.size)
           clear hv5))
  have hS := KS.out u5 hu5
  obtain ⟨va0, va1, va2, va3, va4, va5, va6, va7, va8, va9, va10, va11, vb0, vb1, vb2, vb3, vb4, vb5, vb6, vb7, vb8, vb9, vb10, vb11, vc0, vc1, vc2, vc3, vc4, vc5, vc6, vc7, vc8, vc9, vc10, vc11, vc12, vc13, hbu⟩ := hS
  have hy5a : w.heap.size < u5.heap.size := Nat.lt_of_lt_of_le HA3.out.lt hu5.size
  have hy5b : w2.heap.size < u5.heap.size := Nat.lt_of_lt_of_le HC3.out.lt hu5.size
  have hy5c : w3.heap.size < u5.heap.size := Nat.lt_of_lt_of_le HT3.out.lt hu5.size
  have HB5 := Lib.hid (HB3.out.trans (hu5.mono HB3.out.size))
  rcases HEc.out with ⟨⟨hr, hf⟩, q1, q2, q3, q4, q5, q6⟩ | ⟨hE, q1, q2, q3, q4, q5, q6⟩
  · subst q1 q2 q3 q4 q5 q6
    rcases hf with rfl | rfl | rfl | rfl | rfl
    · -- 5
      have htl := ((echo_right 5 g2 g3 g4 g5 g6 bs2.length ws2.length r2 m2 c2 j2).2 ⟨hr, by omega⟩).1
      have HTL := Lib.hid htl
      have HRr := Lib.hid hr
      have HWT : Hid (WideT g2 g3 g4 g5 g6 0 0 0) := ⟨HWd2.out.a0, HWd2.out.a1, HWd2.out.n0, HWd2.out.n1, HWd2.out.v0, HWd2.out.v1, HWd2.out.x0, HWd2.out.x1, HWd2.out.o0, HWd2.out.o1, by omega, by omega, by omega, by omega, by omega, by omega⟩
      clear htl hr
      go_wp2_with fail
      refine (pbT_5 g2 g3 g4 g5 g6 _ HWT.out HTL.out).mono ?_
      rintro e z1 ⟨gB, rfl, hgB, hgs, hbz⟩
      have HZ1 : Hid (Below X0.heap.size X0 z1) := hu5.trans (hbz.mono hu5.size)
      have HGB := Lib.hid hgB
      have hcz := HC3.out.below HZ1.out HC3.out.lt
      have hyz1 : w2.heap.size < z1.heap.size := hcz.lt
      obtain ⟨za0, za1, za2, za3, za4, za5, za6, za7, za8, za9, za10, za11⟩ := cells12 hcz
      have HBz := Lib.hid (HB5.out.trans (hbz.mono HB5.out.size))
      clear hgB hgs hbz hcz
      go_wp2_with fail
      refine (rbytesc_5 g2 g3 g4 g5 g6 bs2.length ws2.length r2 m2 c2 j2 B2 W2 bd wd _ HRr.out HWT.out.v0 HWT.out.v1).mono ?_
      rintro e z2 ⟨C4, c4, rfl, hcap, hrx, hbz2⟩
      obtain ⟨bX, offX, rfl, hbX, _⟩ := hrx.2 (by omega)
      have HFr : Hid (Row .u8 z2 z2.heap.size (some ⟨bX, offX, none⟩) 5 [5, g2 / 256, g2 % 256, (g4 * 65280) / 256, (g4 * 65280) % 256]) := hrx
      have HGz := Lib.hid ((HGB.out.row.below hbz2).more hbz2.size)
      have KZ : Hid (∀ X, Below z2.heap.size z2 X → ((convert 33 9 (.slice (some ⟨gB, 0, none⟩) 5 5)).run Try.prog X = .ok (.string (strOfNums [5, g2 / 256, g2 % 256, (g4 * 65280) / 256, (g4 * 65280) % 256])) X ∧ (convert 33 9 (.slice (some ⟨bX, offX, none⟩) 5 c4)).run Try.prog X = .ok (.string (strOfNums [5, g2 / 256, g2 % 256, (g4 * 65280) / 256, (g4 * 65280) % 256])) X ∧ Below z2.heap.size z2 X)) := fun X hX => ⟨conv_row _ 5 5 [5, g2 / 256, g2 % 256, (g4 * 65280) / 256, (g4 * 65280) % 256] _ ((HGz.out.below hX).more hX.size), conv_row _ 5 c4 [5, g2 / 256, g2 % 256, (g4 * 65280) / 256, (g4 * 65280) % 256] _ ((HFr.out.below hX).more hX.size), hX⟩
      have hcapn : 5 ≤ c4 := by omega
      have hcapi : (5 : Int) ≤ (c4 : Int) := by omega
      have hlen : (5 : Int) ≤ ((5 : Nat) : Int) := by omega
      have HBz2 := Lib.hid (HBz.out.trans (hbz2.mono HBz.out.size))
      clear hbz2 hrx
      go_wp2_with fail
      go_region_held3 (fun X => (convert 33 9 (.slice (some ⟨gB, 0, none⟩) 5 5)).run Try.prog X = .ok (.string (strOfNums [5, g2 / 256, g2 % 256, (g4 * 65280) / 256, (g4 * 65280) % 256])) X ∧ (convert 33 9 (.slice (some ⟨bX, offX, none⟩) 5 c4)).run Try.prog X = .ok (.string (strOfNums [5, g2 / 256, g2 % 256, (g4 * 65280) / 256, (g4 * 65280) % 256])) X ∧ Below z2.heap.size z2 X)
        (first
          | exact KZ.out _ (Below.refl _ _).drew
          | exact KZ.out _ (below_drewN (Below.refl _ _) _))
        (first | fail)
      go_wp2
      go_ret
      first
        | exact ⟨rfl, HBz2.out.drew⟩
        | exact ⟨rfl, below_drewN HBz2.out _⟩
    · -- 6
      have htl := ((echo_right 6 g2 g3 g4 g5 g6 bs2.length ws2.length r2 m2 c2 j2).2 ⟨hr, by omega⟩).1
      have HTL := Lib.hid htl
      have HRr := Lib.hid hr
      have HWT : Hid (WideT g2 g3 g4 g5 g6 0 0 0) := ⟨HWd2.out.a0, HWd2.out.a1, HWd2.out.n0, HWd2.out.n1, HWd2.out.v0, HWd2.out.v1, HWd2.out.x0, HWd2.out.x1, HWd2.out.o0, HWd2.out.o1, by omega, by omega, by omega, by omega, by omega, by omega⟩
      clear htl hr
      go_wp2_with fail
      refine (pbT_6 g2 g3 g4 g5 g6 _ HWT.out HTL.out).mono ?_
      rintro e z1 ⟨gB, rfl, hgB, hgs, hbz⟩
      have HZ1 : Hid (Below X0.heap.size X0 z1) := hu5.trans (hbz.mono hu5.size)
      have HGB := Lib.hid hgB
      have hcz := HC3.out.below HZ1.out HC3.out.lt
      have hyz1 : w2.heap.size < z1.heap.size := hcz.lt
      obtain ⟨za0, za1, za2, za3, za4, za5, za6, za7, za8, za9, za10, za11⟩ := cells12 hcz
      have HBz := Lib.hid (HB5.out.trans (hbz.mono HB5.out.size))
      clear hgB hgs hbz hcz
      go_wp2_with fail
      refine (rbytesc_6 g2 g3 g4 g5 g6 bs2.length ws2.length r2 m2 c2 j2 B2 W2 bd wd _ HRr.out HWT.out.v0 HWT.out.v1).mono ?_
      rintro e z2 ⟨C4, c4, rfl, hcap, hrx, hbz2⟩
      obtain ⟨bX, offX, rfl, hbX, _⟩ := hrx.2 (by omega)
      have HFr : Hid (Row .u8 z2 z2.heap.size (some ⟨bX, offX, none⟩) 5 [6, g2 / 256, g2 % 256, g4 / 256, g4 % 256]) := hrx
      have HGz := Lib.hid ((HGB.out.row.below hbz2).more hbz2.size)
      have KZ : Hid (∀ X, Below z2.heap.size z2 X → ((convert 33 9 (.slice (some ⟨gB, 0, none⟩) 5 5)).run Try.prog X = .ok (.string (strOfNums [6, g2 / 256, g2 % 256, g4 / 256, g4 % 256])) X ∧ (convert 33 9 (.slice (some ⟨bX, offX, none⟩) 5 c4)).run Try.prog X = .ok (.string (strOfNums [6, g2 / 256, g2 % 256, g4 / 256, g4 % 256])) X ∧ Below z2.heap.size z2 X)) := fun X hX => ⟨conv_row _ 5 5 [6, g2 / 256, g2 % 256, g4 / 256, g4 % 256] _ ((HGz.out.below hX).more hX.size), conv_row _ 5 c4 [6, g2 / 256, g2 % 256, g4 / 256, g4 % 256] _ ((HFr.out.below hX).more hX.size), hX⟩
      have hcapn : 5 ≤ c4 := by omega
      have hcapi : (5 : Int) ≤ (c4 : Int) := by omega
      have hlen : (5 : Int) ≤ ((5 : Nat) : Int) := by omega
      have HBz2 := Lib.hid (HBz.out.trans (hbz2.mono HBz.out.size))
      clear hbz2 hrx
      go_wp2_with fail
      go_region_held3 (fun X => (convert 33 9 (.slice (some ⟨gB, 0, none⟩) 5 5)).run Try.prog X = .ok (.string (strOfNums [6, g2 / 256, g2 % 256, g4 / 256, g4 % 256])) X ∧ (convert 33 9 (.slice (some ⟨bX, offX, none⟩) 5 c4)).run Try.prog X = .ok (.string (strOfNums [6, g2 / 256, g2 % 256, g4 / 256, g4 % 256])) X ∧ Below z2.heap.size z2 X)
        (first
          | exact KZ.out _ (Below.refl _ _).drew
          | exact KZ.out _ (below_drewN (Below.refl _ _) _))
        (first | fail)
      go_wp2
      go_ret
      first
        | exact ⟨rfl, HBz2.out.drew⟩
        | exact ⟨rfl, below_drewN HBz2.out _⟩
    · -- 15
      have hln : (bs2.length : Int) = g3 := by
        have hft := hr.2.2.2.2
        unfold fitsP at hft
        omega
      subst hln
      have htl := ((echo_right 15 g2 (bs2.length : Int) g4 g5 g6 bs2.length ws2.length r2 m2 c2 j2).2 ⟨hr, by omega⟩).1
      have HTL := Lib.hid htl
      have HRr := Lib.hid hr
      have HWT : Hid (WideT g2 (bs2.length : Int) g4 g5 g6 0 0 0) := ⟨HWd2.out.a0, HWd2.out.a1, HWd2.out.n0, HWd2.out.n1, HWd2.out.v0, HWd2.out.v1, HWd2.out.x0, HWd2.out.x1, HWd2.out.o0, HWd2.out.o1, by omega, by omega, by omega, by omega, by omega, by omega⟩
      clear htl hr
      go_wp2_with fail
      refine (pbT_15 g2 (bs2.length : Int) g4 g5 g6 _ HWT.out HTL.out).mono ?_
      rintro e z1 ⟨gB, rfl, hgB, hgs, hbz⟩
      have HZ1 : Hid (Below X0.heap.size X0 z1) := hu5.trans (hbz.mono hu5.size)
      have HGB := Lib.hid hgB
      have hcz := HC3.out.below HZ1.out HC3.out.lt
      have hyz1 : w2.heap.size < z1.heap.size := hcz.lt
      obtain ⟨za0, za1, za2, za3, za4, za5, za6, za7, za8, za9, za10, za11⟩ := cells12 hcz
      have HBz := Lib.hid (HB5.out.trans (hbz.mono HB5.out.size))
      clear hgB hgs hbz hcz
      go_wp2_with fail
      refine (rbytesc_15 g2 g4 g5 g6 bs2.length ws2.length r2 m2 c2 j2 B2 W2 bd wd _ HRr.out bs2 ((HBr3.out.below HZ1.out).more HZ1.out.size)).mono ?_
      rintro e z2 ⟨C4, c4, rfl, hcap, hrx, hbz2⟩
      obtain ⟨bX, offX, rfl, hbX, _⟩ := hrx.2 (by omega)
      obtain ⟨LX, hLX⟩ : ∃ LX : Nat, 6 + nb bs2.length = LX := ⟨_, rfl⟩
      rw [hLX]
      have HFr : Hid (Row .u8 z2 z2.heap.size (some ⟨bX, offX, none⟩) 5 [15, g2 / 256, g2 % 256, (bs2.length : Int) / 256, (bs2.length : Int) % 256]) := (by
        have h : Row .u8 z2 z2.heap.size (some ⟨bX, offX, none⟩) (5 + (1 + nb bs2.length)) ([15, g2 / 256, g2 % 256, (bs2.length : Int) / 256, (bs2.length : Int) % 256] ++ (((nb bs2.length : Nat) : Int) :: pk bs2 bs2.length)) := by
          rw [show 5 + (1 + nb bs2.length) = 6 + nb bs2.length by omega]
          exact hrx
        exact h.front rfl)
      have HGz := Lib.hid ((HGB.out.row.below hbz2).more hbz2.size)
      have KZ : Hid (∀ X, Below z2.heap.size z2 X → ((convert 33 9 (.slice (some ⟨gB, 0, none⟩) 5 5)).run Try.prog X = .ok (.string (strOfNums [15, g2 / 256, g2 % 256, (bs2.length : Int) / 256, (bs2.length : Int) % 256])) X ∧ (convert 33 9 (.slice (some ⟨bX, offX, none⟩) 5 c4)).run Try.prog X = .ok (.string (strOfNums [15, g2 / 256, g2 % 256, (bs2.length : Int) / 256, (bs2.length : Int) % 256])) X ∧ Below z2.heap.size z2 X)) := fun X hX => ⟨conv_row _ 5 5 [15, g2 / 256, g2 % 256, (bs2.length : Int) / 256, (bs2.length : Int) % 256] _ ((HGz.out.below hX).more hX.size), conv_row _ 5 c4 [15, g2 / 256, g2 % 256, (bs2.length : Int) / 256, (bs2.length : Int) % 256] _ ((HFr.out.below hX).more hX.size), hX⟩
      have hcapn : 5 ≤ c4 := by omega
      have hcapi : (5 : Int) ≤ (c4 : Int) := by omega
      have hlen : (5 : Int) ≤ (LX : Int) := by omega
      have hlend : decide ((5 : Int) ≤ (LX : Int)) = true := by simp; omega
      have HBz2 := Lib.hid (HBz.out.trans (hbz2.mono HBz.out.size))
      clear hbz2 hrx hLX hcap
      go_wp2_with fail
      go_region_held3 (fun X => (convert 33 9 (.slice (some ⟨gB, 0, none⟩) 5 5)).run Try.prog X = .ok (.string (strOfNums [15, g2 / 256, g2 % 256, (bs2.length : Int) / 256, (bs2.length : Int) % 256])) X ∧ (convert 33 9 (.slice (some ⟨bX, offX, none⟩) 5 c4)).run Try.prog X = .ok (.string (strOfNums [15, g2 / 256, g2 % 256, (bs2.length : Int) / 256, (bs2.length : Int) % 256])) X ∧ Below z2.heap.size z2 X)
        (first
          | exact KZ.out _ (Below.refl _ _).drew
          | exact KZ.out _ (below_drewN (Below.refl _ _) _))
        (first | fail)
      go_wp2
      go_ret
      first
        | exact ⟨rfl, HBz2.out.drew⟩
        | exact ⟨rfl, below_drewN HBz2.out _⟩
    · -- 16
      have hln : (ws2.length : Int) = g3 := by
        have hft := hr.2.2.2.2
        unfold fitsP at hft
        omega
      subst hln
      have htl := ((echo_right 16 g2 (ws2.length : Int) g4 g5 g6 bs2.length ws2.length r2 m2 c2 j2).2 ⟨hr, by omega⟩).1
      have HTL := Lib.hid htl
      have HRr := Lib.hid hr
      have HWT : Hid (WideT g2 (ws2.length : Int) g4 g5 g6 0 0 0) := ⟨HWd2.out.a0, HWd2.out.a1, HWd2.out.n0, HWd2.out.n1, HWd2.out.v0, HWd2.out.v1, HWd2.out.x0, HWd2.out.x1, HWd2.out.o0, HWd2.out.o1, by omega, by omega, by omega, by omega, by omega, by omega⟩
      clear htl hr
      go_wp2_with fail
      refine (pbT_16 g2 (ws2.length : Int) g4 g5 g6 _ HWT.out HTL.out).mono ?_
      rintro e z1 ⟨gB, rfl, hgB, hgs, hbz⟩
      have HZ1 : Hid (Below X0.heap.size X0 z1) := hu5.trans (hbz.mono hu5.size)
      have HGB := Lib.hid hgB
      have hcz := HC3.out.below HZ1.out HC3.out.lt
      have hyz1 : w2.heap.size < z1.heap.size := hcz.lt
      obtain ⟨za0, za1, za2, za3, za4, za5, za6, za7, za8, za9, za10, za11⟩ := cells12 hcz
      have HBz := Lib.hid (HB5.out.trans (hbz.mono HB5.out.size))
      clear hgB hgs hbz hcz
      go_wp2_with fail
      refine (rbytesc_16 g2 g4 g5 g6 bs2.length ws2.length r2 m2 c2 j2 B2 W2 bd wd _ HRr.out ws2 ((HWr3.out.below HZ1.out).more HZ1.out.size) HWs2.out).mono ?_
      rintro e z2 ⟨C4, c4, rfl, hcap, hrx, hbz2⟩
      obtain ⟨bX, offX, rfl, hbX, _⟩ := hrx.2 (by omega)
      obtain ⟨LX, hLX⟩ : ∃ LX : Nat, 6 + 2 * ws2.length = LX := ⟨_, rfl⟩
      rw [hLX]
      have HFr : Hid (Row .u8 z2 z2.heap.size (some ⟨bX, offX, none⟩) 5 [16, g2 / 256, g2 % 256, (ws2.length : Int) / 256, (ws2.length : Int) % 256]) := (by
        have h : Row .u8 z2 z2.heap.size (some ⟨bX, offX, none⟩) (5 + (1 + 2 * ws2.length)) ([16, g2 / 256, g2 % 256, (ws2.length : Int) / 256, (ws2.length : Int) % 256] ++ ((2 * (ws2.length : Int)) :: flat ws2)) := by
          rw [show 5 + (1 + 2 * ws2.length) = 6 + 2 * ws2.length by omega]
          exact hrx
        exact h.front rfl)
      have HGz := Lib.hid ((HGB.out.row.below hbz2).more hbz2.size)
      have KZ : Hid (∀ X, Below z2.heap.size z2 X → ((convert 33 9 (.slice (some ⟨gB, 0, none⟩) 5 5)).run Try.prog X = .ok (.string (strOfNums [16, g2 / 256, g2 % 256, (ws2.length : Int) / 256, (ws2.length : Int) % 256])) X ∧ (convert 33 9 (.slice (some ⟨bX, offX, none⟩) 5 c4)).run Try.prog X = .ok (.string (strOfNums [16, g2 / 256, g2 % 256, (ws2.length : Int) / 256, (ws2.length : Int) % 256])) X ∧ Below z2.heap.size z2 X)) := fun X hX => ⟨conv_row _ 5 5 [16, g2 / 256, g2 % 256, (ws2.length : Int) / 256, (ws2.length : Int) % 256] _ ((HGz.out.below hX).more hX.size), conv_row _ 5 c4 [16, g2 / 256, g2 % 256, (ws2.length : Int) / 256, (ws2.length : Int) % 256] _ ((HFr.out.below hX).more hX.size), hX⟩
      have hcapn : 5 ≤ c4 := by omega
      have hcapi : (5 : Int) ≤ (c4 : Int) := by omega
      have hlen : (5 : Int) ≤ (LX : Int) := by omega
      have hlend : decide ((5 : Int) ≤ (LX : Int)) = true := by simp; omega
      have HBz2 := Lib.hid (HBz.out.trans (hbz2.mono HBz.out.size))
      clear hbz2 hrx hLX hcap
      go_wp2_with fail
      go_region_held3 (fun X => (convert 33 9 (.slice (some ⟨gB, 0, none⟩) 5 5)).run Try.prog X = .ok (.string (strOfNums [16, g2 / 256, g2 % 256, (ws2.length : Int) / 256, (ws2.length : Int) % 256])) X ∧ (convert 33 9 (.slice (some ⟨bX, offX, none⟩) 5 c4)).run Try.prog X = .ok (.string (strOfNums [16, g2 / 256, g2 % 256, (ws2.length : Int) / 256, (ws2.length : Int) % 256])) X ∧ Below z2.heap.size z2 X)
        (first
          | exact KZ.out _ (Below.refl _ _).drew
          | exact KZ.out _ (below_drewN (Below.refl _ _) _))
        (first | fail)
      go_wp2
      go_ret
      first
        | exact ⟨rfl, HBz2.out.drew⟩
        | exact ⟨rfl, below_drewN HBz2.out _⟩
    · -- 22
      have htl := ((echo_right 22 g2 g3 g4 g5 g6 bs2.length ws2.length r2 m2 c2 j2).2 ⟨hr, by omega⟩).1
      have HTL := Lib.hid htl
      have HRr := Lib.hid hr
      have HWT : Hid (WideT g2 g3 g4 g5 g6 0 0 0) := ⟨HWd2.out.a0, HWd2.out.a1, HWd2.out.n0, HWd2.out.n1, HWd2.out.v0, HWd2.out.v1, HWd2.out.x0, HWd2.out.x1, HWd2.out.o0, HWd2.out.o1, by omega, by omega, by omega, by omega, by omega, by omega⟩
      clear htl hr
      go_wp2_with fail
      refine (pbT_22 g2 g3 g4 g5 g6 _ HWT.out HTL.out).mono ?_
      rintro e z1 ⟨gB, rfl, hgB, hgs, hbz⟩
      have HZ1 : Hid (Below X0.heap.size X0 z1) := hu5.trans (hbz.mono hu5.size)
      have HGB := Lib.hid hgB
      have hcz := HC3.out.below HZ1.out HC3.out.lt
      have hyz1 : w2.heap.size < z1.heap.size := hcz.lt
      obtain ⟨za0, za1, za2, za3, za4, za5, za6, za7, za8, za9, za10, za11⟩ := cells12 hcz
      have HBz := Lib.hid (HB5.out.trans (hbz.mono HB5.out.size))
      clear hgB hgs hbz hcz
      go_wp2_with fail
      refine (rbytesc_22 g2 g3 g4 g5 g6 bs2.length ws2.length r2 m2 c2 j2 B2 W2 bd wd _ HRr.out HWT.out.d0 HWT.out.d1 HWT.out.o0 HWT.out.o1).mono ?_
      rintro e z2 ⟨C4, c4, rfl, hcap, hrx, hbz2⟩
      obtain ⟨bX, offX, rfl, hbX, _⟩ := hrx.2 (by omega)
      have HFr : Hid (Row .u8 z2 z2.heap.size (some ⟨bX, offX, none⟩) 7 [22, g2 / 256, g2 % 256, g5 / 256, g5 % 256, g6 / 256, g6 % 256]) := hrx
      have HGz := Lib.hid ((HGB.out.row.below hbz2).more hbz2.size)
      have KZ : Hid (∀ X, Below z2.heap.size z2 X → ((convert 33 9 (.slice (some ⟨gB, 0, none⟩) 7 7)).run Try.prog X = .ok (.string (strOfNums [22, g2 / 256, g2 % 256, g5 / 256, g5 % 256, g6 / 256, g6 % 256])) X ∧ (convert 33 9 (.slice (some ⟨bX, offX, none⟩) 7 c4)).run Try.prog X = .ok (.string (strOfNums [22, g2 / 256, g2 % 256, g5 / 256, g5 % 256, g6 / 256, g6 % 256])) X ∧ Below z2.heap.size z2 X)) := fun X hX => ⟨conv_row _ 7 7 [22, g2 / 256, g2 % 256, g5 / 256, g5 % 256, g6 / 256, g6 % 256] _ ((HGz.out.below hX).more hX.size), conv_row _ 7 c4 [22, g2 / 256, g2 % 256, g5 / 256, g5 % 256, g6 / 256, g6 % 256] _ ((HFr.out.below hX).more hX.size), hX⟩
      have hcapn : 7 ≤ c4 := by omega
      have hcapi : (7 : Int) ≤ (c4 : Int) := by omega
      have hlen : (7 : Int) ≤ ((7 : Nat) : Int) := by omega
      have HBz2 := Lib.hid (HBz.out.trans (hbz2.mono HBz.out.size))
      clear hbz2 hrx
      go_wp2_with fail
      go_region_held3 (fun X => (convert 33 9 (.slice (some ⟨gB, 0, none⟩) 7 7)).run Try.prog X = .ok (.string (strOfNums [22, g2 / 256, g2 % 256, g5 / 256, g5 % 256, g6 / 256, g6 % 256])) X ∧ (convert 33 9 (.slice (some ⟨bX, offX, none⟩) 7 c4)).run Try.prog X = .ok (.string (strOfNums [22, g2 / 256, g2 % 256, g5 / 256, g5 % 256, g6 / 256, g6 % 256])) X ∧ Below z2.heap.size z2 X)
        (first
          | exact KZ.out _ (Below.refl _ _).drew
          | exact KZ.out _ (below_drewN (Below.refl _ _) _))
        (first | fail)
      go_wp2
      go_ret
      first
        | exact ⟨rfl, HBz2.out.drew⟩
        | exact ⟨rfl, below_drewN HBz2.out _⟩
  · subst q1 q2 q3 q4 q5 q6
    have hne : ¬ (f2 = 5 ∨ f2 = 6 ∨ f2 = 15 ∨ f2 = 16 ∨ f2 = 22) := fun h => hE ⟨HRt2.out, h⟩
    clear hE
    rcases kinds f2 with rfl | rfl | rfl | rfl | rfl | rfl | rfl | rfl | rfl | rfl | rfl | h
    case inr.inr.inr.inr.inr.inr.inr.inr.inr.inr.inr =>
      have := HRt2.out.1
      rw [h.known] at this
      cases this
    all_goals
      first
        | (exfalso; omega)
        | (clear hne
           go_wp2
           go_ret
           exact ⟨rfl, HB5.out⟩)

set_option maxRecDepth 100000 in
theorem open_ask {H : Type} {enc : TypeId × Value → H} {W : World} {r : Reach} {b0 : Nat} {v : Value} {d : DataW H} {p : List MemPlace} (hv : Value.okWide Try.prog W r b0 26 v) (h : DataW.Trod enc Try.prog W 0 (fun _ => true) true 26 v d p) :
    ∃ (fn at_ n y an orr ra rn co ob : Int) (BA WA : Option Addr) (bl bc wl wc : Nat) (bs : List Bool) (ws : List Int), v = .agg #[.int .i64 fn, .int .i64 at_, .int .i64 n, .int .u16 y, .int .u16 an, .int .u16 orr, .slice BA bl bc, .slice WA wl wc, .int .i64 ra, .int .i64 rn, .int .i64 co, .int .i64 ob] ∧
      ((Lit.int .i64 fn).wf = true ∧ (Lit.int .i64 at_).wf = true ∧ (Lit.int .i64 n).wf = true ∧ (Lit.int .u16 y).wf = true ∧ (Lit.int .u16 an).wf = true ∧ (Lit.int .u16 orr).wf = true ∧ (Lit.int .i64 ra).wf = true ∧ (Lit.int .i64 rn).wf = true ∧ (Lit.int .i64 co).wf = true ∧ (Lit.int .i64 ob).wf = true) ∧ IsBools W BA bl bc bs ∧ IsRow .u16 W WA wl wc ws := by
  obtain ⟨cs, rfl, hsz⟩ := okWide_struct Try.underlying26 hv
  have hC : Try.prog.cellsOf 26 = 12 := by kernel_rfl
  obtain ⟨l⟩ := cs
  match l, hsz.trans hC with
  | [c0, c1, c2, c3, c4, c5, c6, c7, c8, c9, c10, c11], _ =>
    obtain ⟨fuel, hf⟩ := h
    obtain ⟨xs, m, _, _, _, hlen, hg⟩ := DataW.trod_struct Try.underlying26 hf
    match xs, hlen with
    | [y0, y1, y2, y3, y4, y5, y6, y7, y8, y9, y10, y11], _ =>
      have k3 : Try.prog.cellsOf 3 = 1 := by kernel_rfl
      have k22 : Try.prog.cellsOf 22 = 1 := by kernel_rfl
      have k23 : Try.prog.cellsOf 23 = 1 := by kernel_rfl
      have k24 : Try.prog.cellsOf 24 = 1 := by kernel_rfl
      have g0 := hg 0 _ rfl
      simp only [Value.cells, k3, k22, k23, k24, List.drop_succ_cons, List.drop_zero, List.take_succ_cons, List.take_zero] at g0
      obtain ⟨fn, e0, _, w0⟩ := DataW.trod_int Try.underlying3 g0
      injection e0 with e0 _
      subst e0
      have g1 := hg 1 _ rfl
      simp only [Value.cells, k3, k22, k23, k24, List.drop_succ_cons, List.drop_zero, List.take_succ_cons, List.take_zero] at g1
      obtain ⟨at_, e1, _, w1⟩ := DataW.trod_int Try.underlying3 g1
      injection e1 with e1 _
      subst e1
      have g2 := hg 2 _ rfl
      simp only [Value.cells, k3, k22, k23, k24, List.drop_succ_cons, List.drop_zero, List.take_succ_cons, List.take_zero] at g2
      obtain ⟨n, e2, _, w2⟩ := DataW.trod_int Try.underlying3 g2
      injection e2 with e2 _
      subst e2
      have g3 := hg 3 _ rfl
      simp only [Value.cells, k3, k22, k23, k24, List.drop_succ_cons, List.drop_zero, List.take_succ_cons, List.take_zero] at g3
      obtain ⟨y, e3, _, w3⟩ := DataW.trod_int Try.underlying22 g3
      injection e3 with e3 _
      subst e3
      have g4 := hg 4 _ rfl
      simp only [Value.cells, k3, k22, k23, k24, List.drop_succ_cons, List.drop_zero, List.take_succ_cons, List.take_zero] at g4
      obtain ⟨an, e4, _, w4⟩ := DataW.trod_int Try.underlying22 g4
      injection e4 with e4 _
      subst e4
      have g5 := hg 5 _ rfl
      simp only [Value.cells, k3, k22, k23, k24, List.drop_succ_cons, List.drop_zero, List.take_succ_cons, List.take_zero] at g5
      obtain ⟨orr, e5, _, w5⟩ := DataW.trod_int Try.underlying22 g5
      injection e5 with e5 _
      subst e5
      have g6 := hg 6 _ rfl
      simp only [Value.cells, k3, k22, k23, k24, List.drop_succ_cons, List.drop_zero, List.take_succ_cons, List.take_zero] at g6
      have g7 := hg 7 _ rfl
      simp only [Value.cells, k3, k22, k23, k24, List.drop_succ_cons, List.drop_zero, List.take_succ_cons, List.take_zero] at g7
      have g8 := hg 8 _ rfl
      simp only [Value.cells, k3, k22, k23, k24, List.drop_succ_cons, List.drop_zero, List.take_succ_cons, List.take_zero] at g8
      obtain ⟨ra, e8, _, w8⟩ := DataW.trod_int Try.underlying3 g8
      injection e8 with e8 _
      subst e8
      have g9 := hg 9 _ rfl
      simp only [Value.cells, k3, k22, k23, k24, List.drop_succ_cons, List.drop_zero, List.take_succ_cons, List.take_zero] at g9
      obtain ⟨rn, e9, _, w9⟩ := DataW.trod_int Try.underlying3 g9
      injection e9 with e9 _
      subst e9
      have g10 := hg 10 _ rfl
      simp only [Value.cells, k3, k22, k23, k24, List.drop_succ_cons, List.drop_zero, List.take_succ_cons, List.take_zero] at g10
      obtain ⟨co, e10, _, w10⟩ := DataW.trod_int Try.underlying3 g10
      injection e10 with e10 _
      subst e10
      have g11 := hg 11 _ rfl
      simp only [Value.cells, k3, k22, k23, k24, List.drop_succ_cons, List.drop_zero, List.take_succ_cons, List.take_zero] at g11
      obtain ⟨ob, e11, _, w11⟩ := DataW.trod_int Try.underlying3 g11
      injection e11 with e11 _
      subst e11
      have hb : ∃ BA bl bc bs, c6 = .slice BA bl bc ∧ IsBools W BA bl bc bs := by
        rcases open_bools Try.underlying23 Try.underlying4 (by kernel_rfl) g6 with ⟨hcs, _⟩ | ⟨x, l, c, B, hcs, _, hl, hm, _, hcell⟩
        · injection hcs with e _
          exact ⟨none, 0, 0, [], e, .inl ⟨rfl, rfl, rfl, rfl⟩⟩
        · injection hcs with e _
          obtain ⟨bs, hbs⟩ := isBools_mk B hl hm hcell
          exact ⟨_, _, _, bs, e, hbs⟩
      have hw : ∃ WA wl wc ws, c7 = .slice WA wl wc ∧ IsRow .u16 W WA wl wc ws := by
        rcases open_ints Try.underlying24 Try.underlying22 (by kernel_rfl) g7 with ⟨hcs, _⟩ | ⟨x, l, c, zs, hcs, _, hl, hm, hz, _, hcell, hwz⟩
        · injection hcs with e _
          exact ⟨none, 0, 0, [], e, .inl ⟨rfl, rfl, rfl, rfl⟩⟩
        · injection hcs with e _
          exact ⟨_, _, _, zs, e, .inr ⟨_, rfl, hl, hm, by simpa using hz, hcell, hwz⟩⟩
      obtain ⟨BA, bl, bc, bs, rfl, hb⟩ := hb
      obtain ⟨WA, wl, wc, ws, rfl, hw⟩ := hw
      exact ⟨fn, at_, n, y, an, orr, ra, rn, co, ob, BA, WA, bl, bc, wl, wc, bs, ws, rfl, ⟨w0, w1, w2, w3, w4, w5, w8, w9, w10, w11⟩, hb, hw⟩

end Go.Proofs.Ytijfeffjjcbijaa

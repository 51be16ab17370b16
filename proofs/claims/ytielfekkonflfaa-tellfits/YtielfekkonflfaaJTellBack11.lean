/- Joined: REcho LEcho. -/
import Derived.Test.YtielfekkonflfaaTEcho
import Derived.Test.YtielfekkonflfaaAskWhole
import Derived.Test.YtielfekkonflfaaJTellBack2
namespace Go.Proofs.Ytielfekkonflfaa
open Go.ChangeShapes Go.WideShapes Go.ChangeAt Go.RowKit
set_option linter.unusedVariables false
set_option linter.unusedSimpArgs false

theorem right_litE (fn at_ n v an orr : Int) (bl wl : Nat) (ra rn co ob : Int) (BA WA : Option Addr) (bc wc : Nat) (w : World) (bb : Bool) (h : decide (rightP fn at_ n v an orr bl wl ra rn co ob) = bb) :
    Calls Try.prog 42 #[.agg #[.int .i64 fn, .int .i64 at_, .int .i64 n, .int .u16 v, .int .u16 an, .int .u16 orr, .slice BA bl bc, .slice WA wl wc, .int .i64 ra, .int .i64 rn, .int .i64 co, .int .i64 ob]] w fun e w' => e = .returned (.bool bb) ∧ Below w.heap.size w w' := by
  rw [← h]
  exact rright_any fn at_ n v an orr bl wl ra rn co ob BA WA bc wc w

set_option maxRecDepth 100000 in
set_option maxHeartbeats 1000000 in
theorem recho_no (fn at_ n v an orr : Int) (bl wl : Nat) (ra rn co ob : Int) (BA WA : Option Addr) (bc wc : Nat) (w : World) (h : ¬ rightP fn at_ n v an orr bl wl ra rn co ob) :
    Calls Try.prog 18 #[.agg #[.int .i64 fn, .int .i64 at_, .int .i64 n, .int .u16 v, .int .u16 an, .int .u16 orr, .slice BA bl bc, .slice WA wl wc, .int .i64 ra, .int .i64 rn, .int .i64 co, .int .i64 ob]] w fun e w' => e = .returned (.agg #[.int .i64 0, .int .i64 0, .slice none 0 0, .slice none 0 0, .int .i64 0, .int .i64 0, .int .u16 0, .int .u16 0, .int .u16 0, .int .i64 0, .int .i64 0, .bool false, .int .i64 0, .slice none 0 0]) ∧ Below w.heap.size w w' := by
  have H1 := Lib.hid (decide_eq_false h)
  clear h
  obtain ⟨hkw, hR, hA⟩ := box2t w 48 28 [.int .i64 fn, .int .i64 at_, .int .i64 n, .int .u16 v, .int .u16 an, .int .u16 orr, .slice BA bl bc, .slice WA wl wc, .int .i64 ra, .int .i64 rn, .int .i64 co, .int .i64 ob] [.int .i64 0, .int .i64 0, .slice none 0 0, .slice none 0 0, .int .i64 0, .int .i64 0, .int .u16 0, .int .u16 0, .int .u16 0, .int .i64 0, .int .i64 0, .bool false, .int .i64 0, .slice none 0 0]
  have HKW := Lib.hid hkw
  have HR := Lib.hid hR
  have HA := Lib.hid hA
  clear hkw hR hA
  go_enter Try.func18, Try.ntmps18
  go_wp2_with fail
  refine (right_litE fn at_ n v an orr bl wl ra rn co ob BA WA bc wc _ false H1.out).mono ?_
  rintro e w1 ⟨rfl, hb1⟩
  have h1 := HR.out.below hb1 HR.out.lt
  have h3 := HA.out.below hb1 HA.out.lt
  have hy1 : w.heap.size + 1 < w1.heap.size := h1.lt
  obtain ⟨aa0, aa1, aa2, aa3, aa4, aa5, aa6, aa7, aa8, aa9, aa10, aa11⟩ := cells12e h3
  obtain ⟨rr0, rr1, rr2, rr3, rr4, rr5, rr6, rr7, rr8, rr9, rr10, rr11, rr12, rr13⟩ := cells14 h1
  obtain ⟨fa0, fa1, fa2, fa3, fa4, fa5, fa6, fa7, fa8, fa9, fa10, fa11, fa12, fa13⟩ := frozen14 h1
  have HB1 := Lib.hid (HKW.out.trans (hb1.mono HKW.out.size))
  have HR1 := Lib.hid h1
  clear hb1 h1 h3
  go_wp2_with fail
  exact end14s Try.results18 HR1.out rfl HB1.out (Nat.le_succ _) rfl fun w9 hbb hk => ⟨rfl, hbb⟩

set_option maxRecDepth 100000 in
set_option maxHeartbeats 1000000 in
theorem recho_5 (at_ n v an orr : Int) (bl wl : Nat) (ra rn co ob : Int) (BA WA : Option Addr) (bc wc : Nat) (w : World) (h : rightP 5 at_ n v an orr bl wl ra rn co ob) :
    Calls Try.prog 18 #[.agg #[.int .i64 5, .int .i64 at_, .int .i64 n, .int .u16 v, .int .u16 an, .int .u16 orr, .slice BA bl bc, .slice WA wl wc, .int .i64 ra, .int .i64 rn, .int .i64 co, .int .i64 ob]] w fun e w' => e = .returned (.agg #[.int .i64 5, .int .i64 0, .slice none 0 0, .slice none 0 0, .int .i64 at_, .int .i64 0, .int .u16 v, .int .u16 0, .int .u16 0, .int .i64 0, .int .i64 0, .bool false, .int .i64 0, .slice none 0 0]) ∧ Below w.heap.size w w' := by
  have H1 := Lib.hid (decide_eq_true h)
  clear h
  obtain ⟨hkw, hR, hA⟩ := box2t w 48 28 [.int .i64 5, .int .i64 at_, .int .i64 n, .int .u16 v, .int .u16 an, .int .u16 orr, .slice BA bl bc, .slice WA wl wc, .int .i64 ra, .int .i64 rn, .int .i64 co, .int .i64 ob] [.int .i64 0, .int .i64 0, .slice none 0 0, .slice none 0 0, .int .i64 0, .int .i64 0, .int .u16 0, .int .u16 0, .int .u16 0, .int .i64 0, .int .i64 0, .bool false, .int .i64 0, .slice none 0 0]
  have HKW := Lib.hid hkw
  have HR := Lib.hid hR
  have HA := Lib.hid hA
  clear hkw hR hA
  go_enter Try.func18, Try.ntmps18
  go_wp2_with fail
  refine (right_litE 5 at_ n v an orr bl wl ra rn co ob BA WA bc wc _ true H1.out).mono ?_
  rintro e w1 ⟨rfl, hb1⟩
  have h1 := HR.out.below hb1 HR.out.lt
  have h3 := HA.out.below hb1 HA.out.lt
  have hy1 : w.heap.size + 1 < w1.heap.size := h1.lt
  obtain ⟨aa0, aa1, aa2, aa3, aa4, aa5, aa6, aa7, aa8, aa9, aa10, aa11⟩ := cells12e h3
  obtain ⟨rr0, rr1, rr2, rr3, rr4, rr5, rr6, rr7, rr8, rr9, rr10, rr11, rr12, rr13⟩ := cells14 h1
  obtain ⟨fa0, fa1, fa2, fa3, fa4, fa5, fa6, fa7, fa8, fa9, fa10, fa11, fa12, fa13⟩ := frozen14 h1
  have HB1 := Lib.hid (HKW.out.trans (hb1.mono HKW.out.size))
  have HR1 := Lib.hid h1
  clear hb1 h1 h3
  go_wp2_with fail
  exact end14s Try.results18 HR1.out rfl HB1.out (Nat.le_succ _) rfl fun w9 hbb hk => ⟨rfl, hbb⟩

set_option maxRecDepth 100000 in
set_option maxHeartbeats 1000000 in
theorem recho_6 (at_ n v an orr : Int) (bl wl : Nat) (ra rn co ob : Int) (BA WA : Option Addr) (bc wc : Nat) (w : World) (h : rightP 6 at_ n v an orr bl wl ra rn co ob) :
    Calls Try.prog 18 #[.agg #[.int .i64 6, .int .i64 at_, .int .i64 n, .int .u16 v, .int .u16 an, .int .u16 orr, .slice BA bl bc, .slice WA wl wc, .int .i64 ra, .int .i64 rn, .int .i64 co, .int .i64 ob]] w fun e w' => e = .returned (.agg #[.int .i64 6, .int .i64 0, .slice none 0 0, .slice none 0 0, .int .i64 at_, .int .i64 0, .int .u16 v, .int .u16 0, .int .u16 0, .int .i64 0, .int .i64 0, .bool false, .int .i64 0, .slice none 0 0]) ∧ Below w.heap.size w w' := by
  have H1 := Lib.hid (decide_eq_true h)
  clear h
  obtain ⟨hkw, hR, hA⟩ := box2t w 48 28 [.int .i64 6, .int .i64 at_, .int .i64 n, .int .u16 v, .int .u16 an, .int .u16 orr, .slice BA bl bc, .slice WA wl wc, .int .i64 ra, .int .i64 rn, .int .i64 co, .int .i64 ob] [.int .i64 0, .int .i64 0, .slice none 0 0, .slice none 0 0, .int .i64 0, .int .i64 0, .int .u16 0, .int .u16 0, .int .u16 0, .int .i64 0, .int .i64 0, .bool false, .int .i64 0, .slice none 0 0]
  have HKW := Lib.hid hkw
  have HR := Lib.hid hR
  have HA := Lib.hid hA
  clear hkw hR hA
  go_enter Try.func18, Try.ntmps18
  go_wp2_with fail
  refine (right_litE 6 at_ n v an orr bl wl ra rn co ob BA WA bc wc _ true H1.out).mono ?_
  rintro e w1 ⟨rfl, hb1⟩
  have h1 := HR.out.below hb1 HR.out.lt
  have h3 := HA.out.below hb1 HA.out.lt
  have hy1 : w.heap.size + 1 < w1.heap.size := h1.lt
  obtain ⟨aa0, aa1, aa2, aa3, aa4, aa5, aa6, aa7, aa8, aa9, aa10, aa11⟩ := cells12e h3
  obtain ⟨rr0, rr1, rr2, rr3, rr4, rr5, rr6, rr7, rr8, rr9, rr10, rr11, rr12, rr13⟩ := cells14 h1
  obtain ⟨fa0, fa1, fa2, fa3, fa4, fa5, fa6, fa7, fa8, fa9, fa10, fa11, fa12, fa13⟩ := frozen14 h1
  have HB1 := Lib.hid (HKW.out.trans (hb1.mono HKW.out.size))
  have HR1 := Lib.hid h1
  clear hb1 h1 h3
  go_wp2_with fail
  exact end14s Try.results18 HR1.out rfl HB1.out (Nat.le_succ _) rfl fun w9 hbb hk => ⟨rfl, hbb⟩

set_option maxRecDepth 100000 in
set_option maxHeartbeats 1000000 in
theorem recho_15 (at_ n v an orr : Int) (bl wl : Nat) (ra rn co ob : Int) (BA WA : Option Addr) (bc wc : Nat) (w : World) (h : rightP 15 at_ n v an orr bl wl ra rn co ob) :
    Calls Try.prog 18 #[.agg #[.int .i64 15, .int .i64 at_, .int .i64 n, .int .u16 v, .int .u16 an, .int .u16 orr, .slice BA bl bc, .slice WA wl wc, .int .i64 ra, .int .i64 rn, .int .i64 co, .int .i64 ob]] w fun e w' => e = .returned (.agg #[.int .i64 15, .int .i64 0, .slice none 0 0, .slice none 0 0, .int .i64 at_, .int .i64 n, .int .u16 0, .int .u16 0, .int .u16 0, .int .i64 0, .int .i64 0, .bool false, .int .i64 0, .slice none 0 0]) ∧ Below w.heap.size w w' := by
  have H1 := Lib.hid (decide_eq_true h)
  clear h
  obtain ⟨hkw, hR, hA⟩ := box2t w 48 28 [.int .i64 15, .int .i64 at_, .int .i64 n, .int .u16 v, .int .u16 an, .int .u16 orr, .slice BA bl bc, .slice WA wl wc, .int .i64 ra, .int .i64 rn, .int .i64 co, .int .i64 ob] [.int .i64 0, .int .i64 0, .slice none 0 0, .slice none 0 0, .int .i64 0, .int .i64 0, .int .u16 0, .int .u16 0, .int .u16 0, .int .i64 0, .int .i64 0, .bool false, .int .i64 0, .slice none 0 0]
  have HKW := Lib.hid hkw
  have HR := Lib.hid hR
  have HA := Lib.hid hA
  clear hkw hR hA
  go_enter Try.func18, Try.ntmps18
  go_wp2_with fail
  refine (right_litE 15 at_ n v an orr bl wl ra rn co ob BA WA bc wc _ true H1.out).mono ?_
  rintro e w1 ⟨rfl, hb1⟩
  have h1 := HR.out.below hb1 HR.out.lt
  have h3 := HA.out.below hb1 HA.out.lt
  have hy1 : w.heap.size + 1 < w1.heap.size := h1.lt
  obtain ⟨aa0, aa1, aa2, aa3, aa4, aa5, aa6, aa7, aa8, aa9, aa10, aa11⟩ := cells12e h3
  obtain ⟨rr0, rr1, rr2, rr3, rr4, rr5, rr6, rr7, rr8, rr9, rr10, rr11, rr12, rr13⟩ := cells14 h1
  obtain ⟨fa0, fa1, fa2, fa3, fa4, fa5, fa6, fa7, fa8, fa9, fa10, fa11, fa12, fa13⟩ := frozen14 h1
  have HB1 := Lib.hid (HKW.out.trans (hb1.mono HKW.out.size))
  have HR1 := Lib.hid h1
  clear hb1 h1 h3
  go_wp2_with fail
  exact end14s Try.results18 HR1.out rfl HB1.out (Nat.le_succ _) rfl fun w9 hbb hk => ⟨rfl, hbb⟩

set_option maxRecDepth 100000 in
set_option maxHeartbeats 1000000 in
theorem recho_16 (at_ n v an orr : Int) (bl wl : Nat) (ra rn co ob : Int) (BA WA : Option Addr) (bc wc : Nat) (w : World) (h : rightP 16 at_ n v an orr bl wl ra rn co ob) :
    Calls Try.prog 18 #[.agg #[.int .i64 16, .int .i64 at_, .int .i64 n, .int .u16 v, .int .u16 an, .int .u16 orr, .slice BA bl bc, .slice WA wl wc, .int .i64 ra, .int .i64 rn, .int .i64 co, .int .i64 ob]] w fun e w' => e = .returned (.agg #[.int .i64 16, .int .i64 0, .slice none 0 0, .slice none 0 0, .int .i64 at_, .int .i64 n, .int .u16 0, .int .u16 0, .int .u16 0, .int .i64 0, .int .i64 0, .bool false, .int .i64 0, .slice none 0 0]) ∧ Below w.heap.size w w' := by
  have H1 := Lib.hid (decide_eq_true h)
  clear h
  obtain ⟨hkw, hR, hA⟩ := box2t w 48 28 [.int .i64 16, .int .i64 at_, .int .i64 n, .int .u16 v, .int .u16 an, .int .u16 orr, .slice BA bl bc, .slice WA wl wc, .int .i64 ra, .int .i64 rn, .int .i64 co, .int .i64 ob] [.int .i64 0, .int .i64 0, .slice none 0 0, .slice none 0 0, .int .i64 0, .int .i64 0, .int .u16 0, .int .u16 0, .int .u16 0, .int .i64 0, .int .i64 0, .bool false, .int .i64 0, .slice none 0 0]
  have HKW := Lib.hid hkw
  have HR := Lib.hid hR
  have HA := Lib.hid hA
  clear hkw hR hA
  go_enter Try.func18, Try.ntmps18
  go_wp2_with fail
  refine (right_litE 16 at_ n v an orr bl wl ra rn co ob BA WA bc wc _ true H1.out).mono ?_
  rintro e w1 ⟨rfl, hb1⟩
  have h1 := HR.out.below hb1 HR.out.lt
  have h3 := HA.out.below hb1 HA.out.lt
  have hy1 : w.heap.size + 1 < w1.heap.size := h1.lt
  obtain ⟨aa0, aa1, aa2, aa3, aa4, aa5, aa6, aa7, aa8, aa9, aa10, aa11⟩ := cells12e h3
  obtain ⟨rr0, rr1, rr2, rr3, rr4, rr5, rr6, rr7, rr8, rr9, rr10, rr11, rr12, rr13⟩ := cells14 h1
  obtain ⟨fa0, fa1, fa2, fa3, fa4, fa5, fa6, fa7, fa8, fa9, fa10, fa11, fa12, fa13⟩ := frozen14 h1
  have HB1 := Lib.hid (HKW.out.trans (hb1.mono HKW.out.size))
  have HR1 := Lib.hid h1
  clear hb1 h1 h3
  go_wp2_with fail
  exact end14s Try.results18 HR1.out rfl HB1.out (Nat.le_succ _) rfl fun w9 hbb hk => ⟨rfl, hbb⟩

set_option maxRecDepth 100000 in
set_option maxHeartbeats 1000000 in
theorem recho_22 (at_ n v an orr : Int) (bl wl : Nat) (ra rn co ob : Int) (BA WA : Option Addr) (bc wc : Nat) (w : World) (h : rightP 22 at_ n v an orr bl wl ra rn co ob) :
    Calls Try.prog 18 #[.agg #[.int .i64 22, .int .i64 at_, .int .i64 n, .int .u16 v, .int .u16 an, .int .u16 orr, .slice BA bl bc, .slice WA wl wc, .int .i64 ra, .int .i64 rn, .int .i64 co, .int .i64 ob]] w fun e w' => e = .returned (.agg #[.int .i64 22, .int .i64 0, .slice none 0 0, .slice none 0 0, .int .i64 at_, .int .i64 0, .int .u16 0, .int .u16 an, .int .u16 orr, .int .i64 0, .int .i64 0, .bool false, .int .i64 0, .slice none 0 0]) ∧ Below w.heap.size w w' := by
  have H1 := Lib.hid (decide_eq_true h)
  clear h
  obtain ⟨hkw, hR, hA⟩ := box2t w 48 28 [.int .i64 22, .int .i64 at_, .int .i64 n, .int .u16 v, .int .u16 an, .int .u16 orr, .slice BA bl bc, .slice WA wl wc, .int .i64 ra, .int .i64 rn, .int .i64 co, .int .i64 ob] [.int .i64 0, .int .i64 0, .slice none 0 0, .slice none 0 0, .int .i64 0, .int .i64 0, .int .u16 0, .int .u16 0, .int .u16 0, .int .i64 0, .int .i64 0, .bool false, .int .i64 0, .slice none 0 0]
  have HKW := Lib.hid hkw
  have HR := Lib.hid hR
  have HA := Lib.hid hA
  clear hkw hR hA
  go_enter Try.func18, Try.ntmps18
  go_wp2_with fail
  refine (right_litE 22 at_ n v an orr bl wl ra rn co ob BA WA bc wc _ true H1.out).mono ?_
  rintro e w1 ⟨rfl, hb1⟩
  have h1 := HR.out.below hb1 HR.out.lt
  have h3 := HA.out.below hb1 HA.out.lt
  have hy1 : w.heap.size + 1 < w1.heap.size := h1.lt
  obtain ⟨aa0, aa1, aa2, aa3, aa4, aa5, aa6, aa7, aa8, aa9, aa10, aa11⟩ := cells12e h3
  obtain ⟨rr0, rr1, rr2, rr3, rr4, rr5, rr6, rr7, rr8, rr9, rr10, rr11, rr12, rr13⟩ := cells14 h1
  obtain ⟨fa0, fa1, fa2, fa3, fa4, fa5, fa6, fa7, fa8, fa9, fa10, fa11, fa12, fa13⟩ := frozen14 h1
  have HB1 := Lib.hid (HKW.out.trans (hb1.mono HKW.out.size))
  have HR1 := Lib.hid h1
  clear hb1 h1 h3
  go_wp2_with fail
  exact end14s Try.results18 HR1.out rfl HB1.out (Nat.le_succ _) rfl fun w9 hbb hk => ⟨rfl, hbb⟩

set_option maxRecDepth 100000 in
set_option maxHeartbeats 1000000 in
theorem recho_1 (at_ n v an orr : Int) (bl wl : Nat) (ra rn co ob : Int) (BA WA : Option Addr) (bc wc : Nat) (w : World) (h : rightP 1 at_ n v an orr bl wl ra rn co ob) :
    Calls Try.prog 18 #[.agg #[.int .i64 1, .int .i64 at_, .int .i64 n, .int .u16 v, .int .u16 an, .int .u16 orr, .slice BA bl bc, .slice WA wl wc, .int .i64 ra, .int .i64 rn, .int .i64 co, .int .i64 ob]] w fun e w' => e = .returned (.agg #[.int .i64 0, .int .i64 0, .slice none 0 0, .slice none 0 0, .int .i64 0, .int .i64 0, .int .u16 0, .int .u16 0, .int .u16 0, .int .i64 0, .int .i64 0, .bool false, .int .i64 0, .slice none 0 0]) ∧ Below w.heap.size w w' := by
  have H1 := Lib.hid (decide_eq_true h)
  clear h
  obtain ⟨hkw, hR, hA⟩ := box2t w 48 28 [.int .i64 1, .int .i64 at_, .int .i64 n, .int .u16 v, .int .u16 an, .int .u16 orr, .slice BA bl bc, .slice WA wl wc, .int .i64 ra, .int .i64 rn, .int .i64 co, .int .i64 ob] [.int .i64 0, .int .i64 0, .slice none 0 0, .slice none 0 0, .int .i64 0, .int .i64 0, .int .u16 0, .int .u16 0, .int .u16 0, .int .i64 0, .int .i64 0, .bool false, .int .i64 0, .slice none 0 0]
  have HKW := Lib.hid hkw
  have HR := Lib.hid hR
  have HA := Lib.hid hA
  clear hkw hR hA
  go_enter Try.func18, Try.ntmps18
  go_wp2_with fail
  refine (right_litE 1 at_ n v an orr bl wl ra rn co ob BA WA bc wc _ true H1.out).mono ?_
  rintro e w1 ⟨rfl, hb1⟩
  have h1 := HR.out.below hb1 HR.out.lt
  have h3 := HA.out.below hb1 HA.out.lt
  have hy1 : w.heap.size + 1 < w1.heap.size := h1.lt
  obtain ⟨aa0, aa1, aa2, aa3, aa4, aa5, aa6, aa7, aa8, aa9, aa10, aa11⟩ := cells12e h3
  obtain ⟨rr0, rr1, rr2, rr3, rr4, rr5, rr6, rr7, rr8, rr9, rr10, rr11, rr12, rr13⟩ := cells14 h1
  obtain ⟨fa0, fa1, fa2, fa3, fa4, fa5, fa6, fa7, fa8, fa9, fa10, fa11, fa12, fa13⟩ := frozen14 h1
  have HB1 := Lib.hid (HKW.out.trans (hb1.mono HKW.out.size))
  have HR1 := Lib.hid h1
  clear hb1 h1 h3
  go_wp2_with fail
  exact end14s Try.results18 HR1.out rfl HB1.out (Nat.le_succ _) rfl fun w9 hbb hk => ⟨rfl, hbb⟩

set_option maxRecDepth 100000 in
set_option maxHeartbeats 1000000 in
theorem recho_2 (at_ n v an orr : Int) (bl wl : Nat) (ra rn co ob : Int) (BA WA : Option Addr) (bc wc : Nat) (w : World) (h : rightP 2 at_ n v an orr bl wl ra rn co ob) :
    Calls Try.prog 18 #[.agg #[.int .i64 2, .int .i64 at_, .int .i64 n, .int .u16 v, .int .u16 an, .int .u16 orr, .slice BA bl bc, .slice WA wl wc, .int .i64 ra, .int .i64 rn, .int .i64 co, .int .i64 ob]] w fun e w' => e = .returned (.agg #[.int .i64 0, .int .i64 0, .slice none 0 0, .slice none 0 0, .int .i64 0, .int .i64 0, .int .u16 0, .int .u16 0, .int .u16 0, .int .i64 0, .int .i64 0, .bool false, .int .i64 0, .slice none 0 0]) ∧ Below w.heap.size w w' := by
  have H1 := Lib.hid (decide_eq_true h)
  clear h
  obtain ⟨hkw, hR, hA⟩ := box2t w 48 28 [.int .i64 2, .int .i64 at_, .int .i64 n, .int .u16 v, .int .u16 an, .int .u16 orr, .slice BA bl bc, .slice WA wl wc, .int .i64 ra, .int .i64 rn, .int .i64 co, .int .i64 ob] [.int .i64 0, .int .i64 0, .slice none 0 0, .slice none 0 0, .int .i64 0, .int .i64 0, .int .u16 0, .int .u16 0, .int .u16 0, .int .i64 0, .int .i64 0, .bool false, .int .i64 0, .slice none 0 0]
  have HKW := Lib.hid hkw
  have HR := Lib.hid hR
  have HA := Lib.hid hA
  clear hkw hR hA
  go_enter Try.func18, Try.ntmps18
  go_wp2_with fail
  refine (right_litE 2 at_ n v an orr bl wl ra rn co ob BA WA bc wc _ true H1.out).mono ?_
  rintro e w1 ⟨rfl, hb1⟩
  have h1 := HR.out.below hb1 HR.out.lt
  have h3 := HA.out.below hb1 HA.out.lt
  have hy1 : w.heap.size + 1 < w1.heap.size := h1.lt
  obtain ⟨aa0, aa1, aa2, aa3, aa4, aa5, aa6, aa7, aa8, aa9, aa10, aa11⟩ := cells12e h3
  obtain ⟨rr0, rr1, rr2, rr3, rr4, rr5, rr6, rr7, rr8, rr9, rr10, rr11, rr12, rr13⟩ := cells14 h1
  obtain ⟨fa0, fa1, fa2, fa3, fa4, fa5, fa6, fa7, fa8, fa9, fa10, fa11, fa12, fa13⟩ := frozen14 h1
  have HB1 := Lib.hid (HKW.out.trans (hb1.mono HKW.out.size))
  have HR1 := Lib.hid h1
  clear hb1 h1 h3
  go_wp2_with fail
  exact end14s Try.results18 HR1.out rfl HB1.out (Nat.le_succ _) rfl fun w9 hbb hk => ⟨rfl, hbb⟩

set_option maxRecDepth 100000 in
set_option maxHeartbeats 1000000 in
theorem recho_3 (at_ n v an orr : Int) (bl wl : Nat) (ra rn co ob : Int) (BA WA : Option Addr) (bc wc : Nat) (w : World) (h : rightP 3 at_ n v an orr bl wl ra rn co ob) :
    Calls Try.prog 18 #[.agg #[.int .i64 3, .int .i64 at_, .int .i64 n, .int .u16 v, .int .u16 an, .int .u16 orr, .slice BA bl bc, .slice WA wl wc, .int .i64 ra, .int .i64 rn, .int .i64 co, .int .i64 ob]] w fun e w' => e = .returned (.agg #[.int .i64 0, .int .i64 0, .slice none 0 0, .slice none 0 0, .int .i64 0, .int .i64 0, .int .u16 0, .int .u16 0, .int .u16 0, .int .i64 0, .int .i64 0, .bool false, .int .i64 0, .slice none 0 0]) ∧ Below w.heap.size w w' := by
  have H1 := Lib.hid (decide_eq_true h)
  clear h
  obtain ⟨hkw, hR, hA⟩ := box2t w 48 28 [.int .i64 3, .int .i64 at_, .int .i64 n, .int .u16 v, .int .u16 an, .int .u16 orr, .slice BA bl bc, .slice WA wl wc, .int .i64 ra, .int .i64 rn, .int .i64 co, .int .i64 ob] [.int .i64 0, .int .i64 0, .slice none 0 0, .slice none 0 0, .int .i64 0, .int .i64 0, .int .u16 0, .int .u16 0, .int .u16 0, .int .i64 0, .int .i64 0, .bool false, .int .i64 0, .slice none 0 0]
  have HKW := Lib.hid hkw
  have HR := Lib.hid hR
  have HA := Lib.hid hA
  clear hkw hR hA
  go_enter Try.func18, Try.ntmps18
  go_wp2_with fail
  refine (right_litE 3 at_ n v an orr bl wl ra rn co ob BA WA bc wc _ true H1.out).mono ?_
  rintro e w1 ⟨rfl, hb1⟩
  have h1 := HR.out.below hb1 HR.out.lt
  have h3 := HA.out.below hb1 HA.out.lt
  have hy1 : w.heap.size + 1 < w1.heap.size := h1.lt
  obtain ⟨aa0, aa1, aa2, aa3, aa4, aa5, aa6, aa7, aa8, aa9, aa10, aa11⟩ := cells12e h3
  obtain ⟨rr0, rr1, rr2, rr3, rr4, rr5, rr6, rr7, rr8, rr9, rr10, rr11, rr12, rr13⟩ := cells14 h1
  obtain ⟨fa0, fa1, fa2, fa3, fa4, fa5, fa6, fa7, fa8, fa9, fa10, fa11, fa12, fa13⟩ := frozen14 h1
  have HB1 := Lib.hid (HKW.out.trans (hb1.mono HKW.out.size))
  have HR1 := Lib.hid h1
  clear hb1 h1 h3
  go_wp2_with fail
  exact end14s Try.results18 HR1.out rfl HB1.out (Nat.le_succ _) rfl fun w9 hbb hk => ⟨rfl, hbb⟩

set_option maxRecDepth 100000 in
set_option maxHeartbeats 1000000 in
theorem recho_4 (at_ n v an orr : Int) (bl wl : Nat) (ra rn co ob : Int) (BA WA : Option Addr) (bc wc : Nat) (w : World) (h : rightP 4 at_ n v an orr bl wl ra rn co ob) :
    Calls Try.prog 18 #[.agg #[.int .i64 4, .int .i64 at_, .int .i64 n, .int .u16 v, .int .u16 an, .int .u16 orr, .slice BA bl bc, .slice WA wl wc, .int .i64 ra, .int .i64 rn, .int .i64 co, .int .i64 ob]] w fun e w' => e = .returned (.agg #[.int .i64 0, .int .i64 0, .slice none 0 0, .slice none 0 0, .int .i64 0, .int .i64 0, .int .u16 0, .int .u16 0, .int .u16 0, .int .i64 0, .int .i64 0, .bool false, .int .i64 0, .slice none 0 0]) ∧ Below w.heap.size w w' := by
  have H1 := Lib.hid (decide_eq_true h)
  clear h
  obtain ⟨hkw, hR, hA⟩ := box2t w 48 28 [.int .i64 4, .int .i64 at_, .int .i64 n, .int .u16 v, .int .u16 an, .int .u16 orr, .slice BA bl bc, .slice WA wl wc, .int .i64 ra, .int .i64 rn, .int .i64 co, .int .i64 ob] [.int .i64 0, .int .i64 0, .slice none 0 0, .slice none 0 0, .int .i64 0, .int .i64 0, .int .u16 0, .int .u16 0, .int .u16 0, .int .i64 0, .int .i64 0, .bool false, .int .i64 0, .slice none 0 0]
  have HKW := Lib.hid hkw
  have HR := Lib.hid hR
  have HA := Lib.hid hA
  clear hkw hR hA
  go_enter Try.func18, Try.ntmps18
  go_wp2_with fail
  refine (right_litE 4 at_ n v an orr bl wl ra rn co ob BA WA bc wc _ true H1.out).mono ?_
  rintro e w1 ⟨rfl, hb1⟩
  have h1 := HR.out.below hb1 HR.out.lt
  have h3 := HA.out.below hb1 HA.out.lt
  have hy1 : w.heap.size + 1 < w1.heap.size := h1.lt
  obtain ⟨aa0, aa1, aa2, aa3, aa4, aa5, aa6, aa7, aa8, aa9, aa10, aa11⟩ := cells12e h3
  obtain ⟨rr0, rr1, rr2, rr3, rr4, rr5, rr6, rr7, rr8, rr9, rr10, rr11, rr12, rr13⟩ := cells14 h1
  obtain ⟨fa0, fa1, fa2, fa3, fa4, fa5, fa6, fa7, fa8, fa9, fa10, fa11, fa12, fa13⟩ := frozen14 h1
  have HB1 := Lib.hid (HKW.out.trans (hb1.mono HKW.out.size))
  have HR1 := Lib.hid h1
  clear hb1 h1 h3
  go_wp2_with fail
  exact end14s Try.results18 HR1.out rfl HB1.out (Nat.le_succ _) rfl fun w9 hbb hk => ⟨rfl, hbb⟩

set_option maxRecDepth 100000 in
set_option maxHeartbeats 1000000 in
theorem recho_23 (at_ n v an orr : Int) (bl wl : Nat) (ra rn co ob : Int) (BA WA : Option Addr) (bc wc : Nat) (w : World) (h : rightP 23 at_ n v an orr bl wl ra rn co ob) :
    Calls Try.prog 18 #[.agg #[.int .i64 23, .int .i64 at_, .int .i64 n, .int .u16 v, .int .u16 an, .int .u16 orr, .slice BA bl bc, .slice WA wl wc, .int .i64 ra, .int .i64 rn, .int .i64 co, .int .i64 ob]] w fun e w' => e = .returned (.agg #[.int .i64 0, .int .i64 0, .slice none 0 0, .slice none 0 0, .int .i64 0, .int .i64 0, .int .u16 0, .int .u16 0, .int .u16 0, .int .i64 0, .int .i64 0, .bool false, .int .i64 0, .slice none 0 0]) ∧ Below w.heap.size w w' := by
  have H1 := Lib.hid (decide_eq_true h)
  clear h
  obtain ⟨hkw, hR, hA⟩ := box2t w 48 28 [.int .i64 23, .int .i64 at_, .int .i64 n, .int .u16 v, .int .u16 an, .int .u16 orr, .slice BA bl bc, .slice WA wl wc, .int .i64 ra, .int .i64 rn, .int .i64 co, .int .i64 ob] [.int .i64 0, .int .i64 0, .slice none 0 0, .slice none 0 0, .int .i64 0, .int .i64 0, .int .u16 0, .int .u16 0, .int .u16 0, .int .i64 0, .int .i64 0, .bool false, .int .i64 0, .slice none 0 0]
  have HKW := Lib.hid hkw
  have HR := Lib.hid hR
  have HA := Lib.hid hA
  clear hkw hR hA
  go_enter Try.func18, Try.ntmps18
  go_wp2_with fail
  refine (right_litE 23 at_ n v an orr bl wl ra rn co ob BA WA bc wc _ true H1.out).mono ?_
  rintro e w1 ⟨rfl, hb1⟩
  have h1 := HR.out.below hb1 HR.out.lt
  have h3 := HA.out.below hb1 HA.out.lt
  have hy1 : w.heap.size + 1 < w1.heap.size := h1.lt
  obtain ⟨aa0, aa1, aa2, aa3, aa4, aa5, aa6, aa7, aa8, aa9, aa10, aa11⟩ := cells12e h3
  obtain ⟨rr0, rr1, rr2, rr3, rr4, rr5, rr6, rr7, rr8, rr9, rr10, rr11, rr12, rr13⟩ := cells14 h1
  obtain ⟨fa0, fa1, fa2, fa3, fa4, fa5, fa6, fa7, fa8, fa9, fa10, fa11, fa12, fa13⟩ := frozen14 h1
  have HB1 := Lib.hid (HKW.out.trans (hb1.mono HKW.out.size))
  have HR1 := Lib.hid h1
  clear hb1 h1 h3
  go_wp2_with fail
  exact end14s Try.results18 HR1.out rfl HB1.out (Nat.le_succ _) rfl fun w9 hbb hk => ⟨rfl, hbb⟩

set_option maxRecDepth 100000 in
set_option maxHeartbeats 1000000 in
theorem recho_43 (at_ n v an orr : Int) (bl wl : Nat) (ra rn co ob : Int) (BA WA : Option Addr) (bc wc : Nat) (w : World) (h : rightP 43 at_ n v an orr bl wl ra rn co ob) :
    Calls Try.prog 18 #[.agg #[.int .i64 43, .int .i64 at_, .int .i64 n, .int .u16 v, .int .u16 an, .int .u16 orr, .slice BA bl bc, .slice WA wl wc, .int .i64 ra, .int .i64 rn, .int .i64 co, .int .i64 ob]] w fun e w' => e = .returned (.agg #[.int .i64 0, .int .i64 0, .slice none 0 0, .slice none 0 0, .int .i64 0, .int .i64 0, .int .u16 0, .int .u16 0, .int .u16 0, .int .i64 0, .int .i64 0, .bool false, .int .i64 0, .slice none 0 0]) ∧ Below w.heap.size w w' := by
  have H1 := Lib.hid (decide_eq_true h)
  clear h
  obtain ⟨hkw, hR, hA⟩ := box2t w 48 28 [.int .i64 43, .int .i64 at_, .int .i64 n, .int .u16 v, .int .u16 an, .int .u16 orr, .slice BA bl bc, .slice WA wl wc, .int .i64 ra, .int .i64 rn, .int .i64 co, .int .i64 ob] [.int .i64 0, .int .i64 0, .slice none 0 0, .slice none 0 0, .int .i64 0, .int .i64 0, .int .u16 0, .int .u16 0, .int .u16 0, .int .i64 0, .int .i64 0, .bool false, .int .i64 0, .slice none 0 0]
  have HKW := Lib.hid hkw
  have HR := Lib.hid hR
  have HA := Lib.hid hA
  clear hkw hR hA
  go_enter Try.func18, Try.ntmps18
  go_wp2_with fail
  refine (right_litE 43 at_ n v an orr bl wl ra rn co ob BA WA bc wc _ true H1.out).mono ?_
  rintro e w1 ⟨rfl, hb1⟩
  have h1 := HR.out.below hb1 HR.out.lt
  have h3 := HA.out.below hb1 HA.out.lt
  have hy1 : w.heap.size + 1 < w1.heap.size := h1.lt
  obtain ⟨aa0, aa1, aa2, aa3, aa4, aa5, aa6, aa7, aa8, aa9, aa10, aa11⟩ := cells12e h3
  obtain ⟨rr0, rr1, rr2, rr3, rr4, rr5, rr6, rr7, rr8, rr9, rr10, rr11, rr12, rr13⟩ := cells14 h1
  obtain ⟨fa0, fa1, fa2, fa3, fa4, fa5, fa6, fa7, fa8, fa9, fa10, fa11, fa12, fa13⟩ := frozen14 h1
  have HB1 := Lib.hid (HKW.out.trans (hb1.mono HKW.out.size))
  have HR1 := Lib.hid h1
  clear hb1 h1 h3
  go_wp2_with fail
  exact end14s Try.results18 HR1.out rfl HB1.out (Nat.le_succ _) rfl fun w9 hbb hk => ⟨rfl, hbb⟩

/-- A request that is right, and is confirmed. -/
def isEcho (fn at_ n v an orr : Int) (bl wl : Nat) (ra rn co ob : Int) : Prop := rightP fn at_ n v an orr bl wl ra rn co ob ∧ (fn = 5 ∨ fn = 6 ∨ fn = 15 ∨ fn = 16 ∨ fn = 22)
instance (fn at_ n v an orr : Int) (bl wl : Nat) (ra rn co ob : Int) : Decidable (isEcho fn at_ n v an orr bl wl ra rn co ob) := by unfold isEcho; infer_instance
theorem recho_lit (fn at_ n v an orr : Int) (bl wl : Nat) (ra rn co ob : Int) (BA WA : Option Addr) (bc wc : Nat) (w : World) (f1 a1 n1 v1 x1 o1 : Int) (hv : (isEcho fn at_ n v an orr bl wl ra rn co ob ∧ f1 = fn ∧ a1 = at_ ∧ n1 = n ∧ v1 = v ∧ x1 = an ∧ o1 = orr) ∨ (¬ isEcho fn at_ n v an orr bl wl ra rn co ob ∧ f1 = 0 ∧ a1 = 0 ∧ n1 = 0 ∧ v1 = 0 ∧ x1 = 0 ∧ o1 = 0)) :
    Calls Try.prog 18 #[.agg #[.int .i64 fn, .int .i64 at_, .int .i64 n, .int .u16 v, .int .u16 an, .int .u16 orr, .slice BA bl bc, .slice WA wl wc, .int .i64 ra, .int .i64 rn, .int .i64 co, .int .i64 ob]] w fun e w' => e = .returned (.agg #[.int .i64 f1, .int .i64 0, .slice none 0 0, .slice none 0 0, .int .i64 a1, .int .i64 n1, .int .u16 v1, .int .u16 x1, .int .u16 o1, .int .i64 0, .int .i64 0, .bool false, .int .i64 0, .slice none 0 0]) ∧ Below w.heap.size w w' := by
  rcases hv with ⟨⟨hr, hf⟩, rfl, rfl, rfl, rfl, rfl, rfl⟩ | ⟨he, rfl, rfl, rfl, rfl, rfl, rfl⟩
  · have hpl := hr.2.1
    unfold plainP at hpl
    rcases hf with rfl | rfl | rfl | rfl | rfl
    · obtain rfl : n1 = 0 := by omega
      obtain rfl : x1 = 0 := by omega
      obtain rfl : o1 = 0 := by omega
      exact recho_5 _ _ _ _ _ bl wl ra rn co ob BA WA bc wc w hr
    · obtain rfl : n1 = 0 := by omega
      obtain rfl : x1 = 0 := by omega
      obtain rfl : o1 = 0 := by omega
      exact recho_6 _ _ _ _ _ bl wl ra rn co ob BA WA bc wc w hr
    · obtain rfl : v1 = 0 := by omega
      obtain rfl : x1 = 0 := by omega
      obtain rfl : o1 = 0 := by omega
      exact recho_15 _ _ _ _ _ bl wl ra rn co ob BA WA bc wc w hr
    · obtain rfl : v1 = 0 := by omega
      obtain rfl : x1 = 0 := by omega
      obtain rfl : o1 = 0 := by omega
      exact recho_16 _ _ _ _ _ bl wl ra rn co ob BA WA bc wc w hr
    · obtain rfl : n1 = 0 := by omega
      obtain rfl : v1 = 0 := by omega
      exact recho_22 _ _ _ _ _ bl wl ra rn co ob BA WA bc wc w hr
  · by_cases hr : rightP fn at_ n v an orr bl wl ra rn co ob
    · have hne : ¬ (fn = 5 ∨ fn = 6 ∨ fn = 15 ∨ fn = 16 ∨ fn = 22) := fun h => he ⟨hr, h⟩
      rcases kinds fn with rfl | rfl | rfl | rfl | rfl | rfl | rfl | rfl | rfl | rfl | rfl | h
      · exact recho_1 at_ n v an orr bl wl ra rn co ob BA WA bc wc w hr
      · exact recho_2 at_ n v an orr bl wl ra rn co ob BA WA bc wc w hr
      · exact recho_3 at_ n v an orr bl wl ra rn co ob BA WA bc wc w hr
      · exact recho_4 at_ n v an orr bl wl ra rn co ob BA WA bc wc w hr
      · omega
      · omega
      · omega
      · omega
      · omega
      · exact recho_23 at_ n v an orr bl wl ra rn co ob BA WA bc wc w hr
      · exact recho_43 at_ n v an orr bl wl ra rn co ob BA WA bc wc w hr
      · have := hr.1
        rw [h.known] at this
        cases this
    · exact recho_no fn at_ n v an orr bl wl ra rn co ob BA WA bc wc w hr

end Go.Proofs.Ytielfekkonflfaa

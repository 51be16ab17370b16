/- Joined: TMade TMade43. -/
import Derived.Test.YtielfekkonflfaaJTellBack3
import Derived.Test.YtielfekkonflfaaJTellBack2
import Derived.Test.YtielfekkonflfaaLAsk
import Derived.Test.YtielfekkonflfaaJTellBack11
import Derived.Test.YtielfekkonflfaaJTellBack5
import Derived.Deep.CutBlock
import Derived.Deep.RegionLaw
import Derived.Deep.RegionHeld3
import Derived.Deep.RegionWith
import Derived.Deep.CutRange
namespace Go.Proofs.Ytielfekkonflfaa
open Go.ChangeShapes Go.WideShapes Go.ChangeAt Go.RowKit
set_option linter.unusedVariables false
set_option linter.unusedSimpArgs false

/-- Just this reply came back, its lists somewhere. -/
def MadeOk (t : TV) (w : World) (e : Ending) (w' : World) : Prop :=
  ∃ BA bc WA wc OA oc, e = .returned (t.agg BA bc WA wc OA oc) ∧ BRow w' w'.heap.size BA t.bl t.bs ∧ Row .u16 w' w'.heap.size WA t.wl t.ws ∧ OL w' w'.heap.size OA t.ol t.os ∧ Below w.heap.size w w'
theorem ol_none (w : World) : OL w w.heap.size none 0 [] := ol_of_own (own2_none w 0 57 )

set_option maxRecDepth 100000 in
set_option maxHeartbeats 4000000 in
theorem made_5 (k v : Int) (WS LS : Option Addr) (wn wsc ln lc : Nat) (vs : List Int) (ls : List Bool) (at_ n x an orr : Int) (bl wl : Nat) (ra rn co ob : Int) (bs : List Bool) (ws : List Int) (w : World) (hG : AskGood 5 at_ n x an orr bl wl ra rn co ob bs ws)
    (hA : ∀ w, Calls Try.prog 15 #[.int .i64 k, .int .i64 v] w (AskOf 5 at_ n x an orr bl wl ra rn co ob bs ws w)) (hws : Row .u16 w w.heap.size WS wn vs) (hls : BRow w w.heap.size LS ln ls) :
    Calls Try.prog 6 #[.int .i64 k, .int .i64 v, .slice WS wn wsc, .slice LS ln lc] w (MadeOk ({ fn := 5, at_ := at_, q := n, v := x, an := an, orr := orr } : TV) w) := by
  have HA := Lib.hid hA
  have HWS := Lib.hid hws
  have HLS := Lib.hid hls
  have HE := Lib.hid (fun BA WA bc wc W => recho_lit 5 at_ n x an orr bl wl ra rn co ob BA WA bc wc W 5 at_ n x an orr (.inl ⟨⟨hG.1, by omega⟩, rfl, rfl, rfl, rfl, rfl, rfl⟩))
  clear hG hA hws hls
  go_enter Try.func6, Try.ntmps6
  go_wp2_with (first
    | (go_at_call 15
       refine (HA.out _).mono ?_
       rintro e w1 ⟨BA, WA, bc, wc, rfl, hob, how, hb1⟩
       have hk1 : Below (w.heap.size + 1) (w.alloc (.cells #[.int .i64 0, .int .i64 0, .slice none 0 0, .slice none 0 0, .int .i64 0, .int .i64 0, .int .u16 0, .int .u16 0, .int .u16 0, .int .i64 0, .int .i64 0, .bool false, .int .i64 0, .slice none 0 0] 28)) w1 := by
         rwa [show (w.alloc (.cells #[.int .i64 0, .int .i64 0, .slice none 0 0, .slice none 0 0, .int .i64 0, .int .i64 0, .int .u16 0, .int .u16 0, .int .u16 0, .int .i64 0, .int .i64 0, .bool false, .int .i64 0, .slice none 0 0] 28)).heap.size = w.heap.size + 1 by simp] at hb1
       have h8 := box14 _ _ _ _ _ _ _ _ _ _ _ _ _ _ _ w w1 hk1
       have HB1 : Hid (Below w.heap.size w w1) := ((Below.refl _ _).alloc (Nat.le_refl _) _).trans (hb1.mono (by simp))
       have H8 := Lib.hid h8
       have h9 : WholeV (w1.alloc (.cells #[.int .i64 5, .int .i64 at_, .int .i64 n, .int .u16 x, .int .u16 an, .int .u16 orr, .slice BA bl bc, .slice WA wl wc, .int .i64 ra, .int .i64 rn, .int .i64 co, .int .i64 ob] 48)) w1.heap.size 48 [.int .i64 5, .int .i64 at_, .int .i64 n, .int .u16 x, .int .u16 an, .int .u16 orr, .slice BA bl bc, .slice WA wl wc, .int .i64 ra, .int .i64 rn, .int .i64 co, .int .i64 ob] := heap_alloc_new w1 _
       have H9 := Lib.hid h9
       have h8b := h8.below ((Below.refl _ _).alloc (Nat.le_refl _) (.cells #[.int .i64 5, .int .i64 at_, .int .i64 n, .int .u16 x, .int .u16 an, .int .u16 orr, .slice BA bl bc, .slice WA wl wc, .int .i64 ra, .int .i64 rn, .int .i64 co, .int .i64 ob] 48)) h8.lt
       have H8b := Lib.hid h8b
       have HB1b := Lib.hid (HB1.out.alloc HB1.out.size (.cells #[.int .i64 5, .int .i64 at_, .int .i64 n, .int .u16 x, .int .u16 an, .int .u16 orr, .slice BA bl bc, .slice WA wl wc, .int .i64 ra, .int .i64 rn, .int .i64 co, .int .i64 ob] 48))
       clear hob how hb1 hk1 h8 h9 h8b)
    | (go_at_call 18
       refine (HE.out BA WA bc wc _).mono ?_
       rintro e w2 ⟨rfl, hb2⟩
       have h9 := H9.out.below hb2 H9.out.lt
       have h8 := H8b.out.below hb2 H8b.out.lt
       have hq0 : w2.cell? ⟨w1.heap.size, 0, none⟩ = some (.int .i64 5) := h9.cell 0
       have hz9 : w1.heap.size < w2.heap.size := h9.lt
       have hz8 : w.heap.size < w2.heap.size := h8.lt
       obtain ⟨hp0, hp1, hp2, hp3, hp4, hp5, hp6, hp7, hp8, hp9, hp10, hp11, hp12, hp13⟩ := cells14 h8
       obtain ⟨hf0, hf1, hf2, hf3, hf4, hf5, hf6, hf7, hf8, hf9, hf10, hf11, hf12, hf13⟩ := frozen14 h8
       have HB2 := Lib.hid (HB1b.out.trans (hb2.mono HB1b.out.size))
       have H82 := Lib.hid h8
       clear h8 h9 hb2))
  exact end14sa Try.results6 H82.out rfl HB2.out (Nat.le_refl _) rfl fun w9 hbb => ⟨none, 0, none, 0, none, 0, rfl, BRow.nil, Row.nil _ _ _ _, ol_none _, hbb⟩

set_option maxRecDepth 100000 in
set_option maxHeartbeats 4000000 in
theorem made_6 (k v : Int) (WS LS : Option Addr) (wn wsc ln lc : Nat) (vs : List Int) (ls : List Bool) (at_ n x an orr : Int) (bl wl : Nat) (ra rn co ob : Int) (bs : List Bool) (ws : List Int) (w : World) (hG : AskGood 6 at_ n x an orr bl wl ra rn co ob bs ws)
    (hA : ∀ w, Calls Try.prog 15 #[.int .i64 k, .int .i64 v] w (AskOf 6 at_ n x an orr bl wl ra rn co ob bs ws w)) (hws : Row .u16 w w.heap.size WS wn vs) (hls : BRow w w.heap.size LS ln ls) :
    Calls Try.prog 6 #[.int .i64 k, .int .i64 v, .slice WS wn wsc, .slice LS ln lc] w (MadeOk ({ fn := 6, at_ := at_, q := n, v := x, an := an, orr := orr } : TV) w) := by
  have HA := Lib.hid hA
  have HWS := Lib.hid hws
  have HLS := Lib.hid hls
  have HE := Lib.hid (fun BA WA bc wc W => recho_lit 6 at_ n x an orr bl wl ra rn co ob BA WA bc wc W 6 at_ n x an orr (.inl ⟨⟨hG.1, by omega⟩, rfl, rfl, rfl, rfl, rfl, rfl⟩))
  clear hG hA hws hls
  go_enter Try.func6, Try.ntmps6
  go_wp2_with (first
    | (go_at_call 15
       refine (HA.out _).mono ?_
       rintro e w1 ⟨BA, WA, bc, wc, rfl, hob, how, hb1⟩
       have hk1 : Below (w.heap.size + 1) (w.alloc (.cells #[.int .i64 0, .int .i64 0, .slice none 0 0, .slice none 0 0, .int .i64 0, .int .i64 0, .int .u16 0, .int .u16 0, .int .u16 0, .int .i64 0, .int .i64 0, .bool false, .int .i64 0, .slice none 0 0] 28)) w1 := by
         rwa [show (w.alloc (.cells #[.int .i64 0, .int .i64 0, .slice none 0 0, .slice none 0 0, .int .i64 0, .int .i64 0, .int .u16 0, .int .u16 0, .int .u16 0, .int .i64 0, .int .i64 0, .bool false, .int .i64 0, .slice none 0 0] 28)).heap.size = w.heap.size + 1 by simp] at hb1
       have h8 := box14 _ _ _ _ _ _ _ _ _ _ _ _ _ _ _ w w1 hk1
       have HB1 : Hid (Below w.heap.size w w1) := ((Below.refl _ _).alloc (Nat.le_refl _) _).trans (hb1.mono (by simp))
       have H8 := Lib.hid h8
       have h9 : WholeV (w1.alloc (.cells #[.int .i64 6, .int .i64 at_, .int .i64 n, .int .u16 x, .int .u16 an, .int .u16 orr, .slice BA bl bc, .slice WA wl wc, .int .i64 ra, .int .i64 rn, .int .i64 co, .int .i64 ob] 48)) w1.heap.size 48 [.int .i64 6, .int .i64 at_, .int .i64 n, .int .u16 x, .int .u16 an, .int .u16 orr, .slice BA bl bc, .slice WA wl wc, .int .i64 ra, .int .i64 rn, .int .i64 co, .int .i64 ob] := heap_alloc_new w1 _
       have H9 := Lib.hid h9
       have h8b := h8.below ((Below.refl _ _).alloc (Nat.le_refl _) (.cells #[.int .i64 6, .int .i64 at_, .int .i64 n, .int .u16 x, .int .u16 an, .int .u16 orr, .slice BA bl bc, .slice WA wl wc, .int .i64 ra, .int .i64 rn, .int .i64 co, .int .i64 ob] 48)) h8.lt
       have H8b := Lib.hid h8b
       have HB1b := Lib.hid (HB1.out.alloc HB1.out.size (.cells #[.int .i64 6, .int .i64 at_, .int .i64 n, .int .u16 x, .int .u16 an, .int .u16 orr, .slice BA bl bc, .slice WA wl wc, .int .i64 ra, .int .i64 rn, .int .i64 co, .int .i64 ob] 48))
       clear hob how hb1 hk1 h8 h9 h8b)
    | (go_at_call 18
       refine (HE.out BA WA bc wc _).mono ?_
       rintro e w2 ⟨rfl, hb2⟩
       have h9 := H9.out.below hb2 H9.out.lt
       have h8 := H8b.out.below hb2 H8b.out.lt
       have hq0 : w2.cell? ⟨w1.heap.size, 0, none⟩ = some (.int .i64 6) := h9.cell 0
       have hz9 : w1.heap.size < w2.heap.size := h9.lt
       have hz8 : w.heap.size < w2.heap.size := h8.lt
       obtain ⟨hp0, hp1, hp2, hp3, hp4, hp5, hp6, hp7, hp8, hp9, hp10, hp11, hp12, hp13⟩ := cells14 h8
       obtain ⟨hf0, hf1, hf2, hf3, hf4, hf5, hf6, hf7, hf8, hf9, hf10, hf11, hf12, hf13⟩ := frozen14 h8
       have HB2 := Lib.hid (HB1b.out.trans (hb2.mono HB1b.out.size))
       have H82 := Lib.hid h8
       clear h8 h9 hb2))
  exact end14sa Try.results6 H82.out rfl HB2.out (Nat.le_refl _) rfl fun w9 hbb => ⟨none, 0, none, 0, none, 0, rfl, BRow.nil, Row.nil _ _ _ _, ol_none _, hbb⟩

set_option maxRecDepth 100000 in
set_option maxHeartbeats 4000000 in
theorem made_15 (k v : Int) (WS LS : Option Addr) (wn wsc ln lc : Nat) (vs : List Int) (ls : List Bool) (at_ n x an orr : Int) (bl wl : Nat) (ra rn co ob : Int) (bs : List Bool) (ws : List Int) (w : World) (hG : AskGood 15 at_ n x an orr bl wl ra rn co ob bs ws)
    (hA : ∀ w, Calls Try.prog 15 #[.int .i64 k, .int .i64 v] w (AskOf 15 at_ n x an orr bl wl ra rn co ob bs ws w)) (hws : Row .u16 w w.heap.size WS wn vs) (hls : BRow w w.heap.size LS ln ls) :
    Calls Try.prog 6 #[.int .i64 k, .int .i64 v, .slice WS wn wsc, .slice LS ln lc] w (MadeOk ({ fn := 15, at_ := at_, q := n, v := x, an := an, orr := orr } : TV) w) := by
  have HA := Lib.hid hA
  have HWS := Lib.hid hws
  have HLS := Lib.hid hls
  have HE := Lib.hid (fun BA WA bc wc W => recho_lit 15 at_ n x an orr bl wl ra rn co ob BA WA bc wc W 15 at_ n x an orr (.inl ⟨⟨hG.1, by omega⟩, rfl, rfl, rfl, rfl, rfl, rfl⟩))
  clear hG hA hws hls
  go_enter Try.func6, Try.ntmps6
  go_wp2_with (first
    | (go_at_call 15
       refine (HA.out _).mono ?_
       rintro e w1 ⟨BA, WA, bc, wc, rfl, hob, how, hb1⟩
       have hk1 : Below (w.heap.size + 1) (w.alloc (.cells #[.int .i64 0, .int .i64 0, .slice none 0 0, .slice none 0 0, .int .i64 0, .int .i64 0, .int .u16 0, .int .u16 0, .int .u16 0, .int .i64 0, .int .i64 0, .bool false, .int .i64 0, .slice none 0 0] 28)) w1 := by
         rwa [show (w.alloc (.cells #[.int .i64 0, .int .i64 0, .slice none 0 0, .slice none 0 0, .int .i64 0, .int .i64 0, .int .u16 0, .int .u16 0, .int .u16 0, .int .i64 0, .int .i64 0, .bool false, .int .i64 0, .slice none 0 0] 28)).heap.size = w.heap.size + 1 by simp] at hb1
       have h8 := box14 _ _ _ _ _ _ _ _ _ _ _ _ _ _ _ w w1 hk1
       have HB1 : Hid (Below w.heap.size w w1) := ((Below.refl _ _).alloc (Nat.le_refl _) _).trans (hb1.mono (by simp))
       have H8 := Lib.hid h8
       have h9 : WholeV (w1.alloc (.cells #[.int .i64 15, .int .i64 at_, .int .i64 n, .int .u16 x, .int .u16 an, .int .u16 orr, .slice BA bl bc, .slice WA wl wc, .int .i64 ra, .int .i64 rn, .int .i64 co, .int .i64 ob] 48)) w1.heap.size 48 [.int .i64 15, .int .i64 at_, .int .i64 n, .int .u16 x, .int .u16 an, .int .u16 orr, .slice BA bl bc, .slice WA wl wc, .int .i64 ra, .int .i64 rn, .int .i64 co, .int .i64 ob] := heap_alloc_new w1 _
       have H9 := Lib.hid h9
       have h8b := h8.below ((Below.refl _ _).alloc (Nat.le_refl _) (.cells #[.int .i64 15, .int .i64 at_, .int .i64 n, .int .u16 x, .int .u16 an, .int .u16 orr, .slice BA bl bc, .slice WA wl wc, .int .i64 ra, .int .i64 rn, .int .i64 co, .int .i64 ob] 48)) h8.lt
       have H8b := Lib.hid h8b
       have HB1b := Lib.hid (HB1.out.alloc HB1.out.size (.cells #[.int .i64 15, .int .i64 at_, .int .i64 n, .int .u16 x, .int .u16 an, .int .u16 orr, .slice BA bl bc, .slice WA wl wc, .int .i64 ra, .int .i64 rn, .int .i64 co, .int .i64 ob] 48))
       clear hob how hb1 hk1 h8 h9 h8b)
    | (go_at_call 18
       refine (HE.out BA WA bc wc _).mono ?_
       rintro e w2 ⟨rfl, hb2⟩
       have h9 := H9.out.below hb2 H9.out.lt
       have h8 := H8b.out.below hb2 H8b.out.lt
       have hq0 : w2.cell? ⟨w1.heap.size, 0, none⟩ = some (.int .i64 15) := h9.cell 0
       have hz9 : w1.heap.size < w2.heap.size := h9.lt
       have hz8 : w.heap.size < w2.heap.size := h8.lt
       obtain ⟨hp0, hp1, hp2, hp3, hp4, hp5, hp6, hp7, hp8, hp9, hp10, hp11, hp12, hp13⟩ := cells14 h8
       obtain ⟨hf0, hf1, hf2, hf3, hf4, hf5, hf6, hf7, hf8, hf9, hf10, hf11, hf12, hf13⟩ := frozen14 h8
       have HB2 := Lib.hid (HB1b.out.trans (hb2.mono HB1b.out.size))
       have H82 := Lib.hid h8
       clear h8 h9 hb2))
  exact end14sa Try.results6 H82.out rfl HB2.out (Nat.le_refl _) rfl fun w9 hbb => ⟨none, 0, none, 0, none, 0, rfl, BRow.nil, Row.nil _ _ _ _, ol_none _, hbb⟩

set_option maxRecDepth 100000 in
set_option maxHeartbeats 4000000 in
theorem made_16 (k v : Int) (WS LS : Option Addr) (wn wsc ln lc : Nat) (vs : List Int) (ls : List Bool) (at_ n x an orr : Int) (bl wl : Nat) (ra rn co ob : Int) (bs : List Bool) (ws : List Int) (w : World) (hG : AskGood 16 at_ n x an orr bl wl ra rn co ob bs ws)
    (hA : ∀ w, Calls Try.prog 15 #[.int .i64 k, .int .i64 v] w (AskOf 16 at_ n x an orr bl wl ra rn co ob bs ws w)) (hws : Row .u16 w w.heap.size WS wn vs) (hls : BRow w w.heap.size LS ln ls) :
    Calls Try.prog 6 #[.int .i64 k, .int .i64 v, .slice WS wn wsc, .slice LS ln lc] w (MadeOk ({ fn := 16, at_ := at_, q := n, v := x, an := an, orr := orr } : TV) w) := by
  have HA := Lib.hid hA
  have HWS := Lib.hid hws
  have HLS := Lib.hid hls
  have HE := Lib.hid (fun BA WA bc wc W => recho_lit 16 at_ n x an orr bl wl ra rn co ob BA WA bc wc W 16 at_ n x an orr (.inl ⟨⟨hG.1, by omega⟩, rfl, rfl, rfl, rfl, rfl, rfl⟩))
  clear hG hA hws hls
  go_enter Try.func6, Try.ntmps6
  go_wp2_with (first
    | (go_at_call 15
       refine (HA.out _).mono ?_
       rintro e w1 ⟨BA, WA, bc, wc, rfl, hob, how, hb1⟩
       have hk1 : Below (w.heap.size + 1) (w.alloc (.cells #[.int .i64 0, .int .i64 0, .slice none 0 0, .slice none 0 0, .int .i64 0, .int .i64 0, .int .u16 0, .int .u16 0, .int .u16 0, .int .i64 0, .int .i64 0, .bool false, .int .i64 0, .slice none 0 0] 28)) w1 := by
         rwa [show (w.alloc (.cells #[.int .i64 0, .int .i64 0, .slice none 0 0, .slice none 0 0, .int .i64 0, .int .i64 0, .int .u16 0, .int .u16 0, .int .u16 0, .int .i64 0, .int .i64 0, .bool false, .int .i64 0, .slice none 0 0] 28)).heap.size = w.heap.size + 1 by simp] at hb1
       have h8 := box14 _ _ _ _ _ _ _ _ _ _ _ _ _ _ _ w w1 hk1
       have HB1 : Hid (Below w.heap.size w w1) := ((Below.refl _ _).alloc (Nat.le_refl _) _).trans (hb1.mono (by simp))
       have H8 := Lib.hid h8
       have h9 : WholeV (w1.alloc (.cells #[.int .i64 16, .int .i64 at_, .int .i64 n, .int .u16 x, .int .u16 an, .int .u16 orr, .slice BA bl bc, .slice WA wl wc, .int .i64 ra, .int .i64 rn, .int .i64 co, .int .i64 ob] 48)) w1.heap.size 48 [.int .i64 16, .int .i64 at_, .int .i64 n, .int .u16 x, .int .u16 an, .int .u16 orr, .slice BA bl bc, .slice WA wl wc, .int .i64 ra, .int .i64 rn, .int .i64 co, .int .i64 ob] := heap_alloc_new w1 _
       have H9 := Lib.hid h9
       have h8b := h8.below ((Below.refl _ _).alloc (Nat.le_refl _) (.cells #[.int .i64 16, .int .i64 at_, .int .i64 n, .int .u16 x, .int .u16 an, .int .u16 orr, .slice BA bl bc, .slice WA wl wc, .int .i64 ra, .int .i64 rn, .int .i64 co, .int .i64 ob] 48)) h8.lt
       have H8b := Lib.hid h8b
       have HB1b := Lib.hid (HB1.out.alloc HB1.out.size (.cells #[.int .i64 16, .int .i64 at_, .int .i64 n, .int .u16 x, .int .u16 an, .int .u16 orr, .slice BA bl bc, .slice WA wl wc, .int .i64 ra, .int .i64 rn, .int .i64 co, .int .i64 ob] 48))
       clear hob how hb1 hk1 h8 h9 h8b)
    | (go_at_call 18
       refine (HE.out BA WA bc wc _).mono ?_
       rintro e w2 ⟨rfl, hb2⟩
       have h9 := H9.out.below hb2 H9.out.lt
       have h8 := H8b.out.below hb2 H8b.out.lt
       have hq0 : w2.cell? ⟨w1.heap.size, 0, none⟩ = some (.int .i64 16) := h9.cell 0
       have hz9 : w1.heap.size < w2.heap.size := h9.lt
       have hz8 : w.heap.size < w2.heap.size := h8.lt
       obtain ⟨hp0, hp1, hp2, hp3, hp4, hp5, hp6, hp7, hp8, hp9, hp10, hp11, hp12, hp13⟩ := cells14 h8
       obtain ⟨hf0, hf1, hf2, hf3, hf4, hf5, hf6, hf7, hf8, hf9, hf10, hf11, hf12, hf13⟩ := frozen14 h8
       have HB2 := Lib.hid (HB1b.out.trans (hb2.mono HB1b.out.size))
       have H82 := Lib.hid h8
       clear h8 h9 hb2))
  exact end14sa Try.results6 H82.out rfl HB2.out (Nat.le_refl _) rfl fun w9 hbb => ⟨none, 0, none, 0, none, 0, rfl, BRow.nil, Row.nil _ _ _ _, ol_none _, hbb⟩

set_option maxRecDepth 100000 in
set_option maxHeartbeats 4000000 in
theorem made_22 (k v : Int) (WS LS : Option Addr) (wn wsc ln lc : Nat) (vs : List Int) (ls : List Bool) (at_ n x an orr : Int) (bl wl : Nat) (ra rn co ob : Int) (bs : List Bool) (ws : List Int) (w : World) (hG : AskGood 22 at_ n x an orr bl wl ra rn co ob bs ws)
    (hA : ∀ w, Calls Try.prog 15 #[.int .i64 k, .int .i64 v] w (AskOf 22 at_ n x an orr bl wl ra rn co ob bs ws w)) (hws : Row .u16 w w.heap.size WS wn vs) (hls : BRow w w.heap.size LS ln ls) :
    Calls Try.prog 6 #[.int .i64 k, .int .i64 v, .slice WS wn wsc, .slice LS ln lc] w (MadeOk ({ fn := 22, at_ := at_, q := n, v := x, an := an, orr := orr } : TV) w) := by
  have HA := Lib.hid hA
  have HWS := Lib.hid hws
  have HLS := Lib.hid hls
  have HE := Lib.hid (fun BA WA bc wc W => recho_lit 22 at_ n x an orr bl wl ra rn co ob BA WA bc wc W 22 at_ n x an orr (.inl ⟨⟨hG.1, by omega⟩, rfl, rfl, rfl, rfl, rfl, rfl⟩))
  clear hG hA hws hls
  go_enter Try.func6, Try.ntmps6
  go_wp2_with (first
    | (go_at_call 15
       refine (HA.out _).mono ?_
       rintro e w1 ⟨BA, WA, bc, wc, rfl, hob, how, hb1⟩
       have hk1 : Below (w.heap.size + 1) (w.alloc (.cells #[.int .i64 0, .int .i64 0, .slice none 0 0, .slice none 0 0, .int .i64 0, .int .i64 0, .int .u16 0, .int .u16 0, .int .u16 0, .int .i64 0, .int .i64 0, .bool false, .int .i64 0, .slice none 0 0] 28)) w1 := by
         rwa [show (w.alloc (.cells #[.int .i64 0, .int .i64 0, .slice none 0 0, .slice none 0 0, .int .i64 0, .int .i64 0, .int .u16 0, .int .u16 0, .int .u16 0, .int .i64 0, .int .i64 0, .bool false, .int .i64 0, .slice none 0 0] 28)).heap.size = w.heap.size + 1 by simp] at hb1
       have h8 := box14 _ _ _ _ _ _ _ _ _ _ _ _ _ _ _ w w1 hk1
       have HB1 : Hid (Below w.heap.size w w1) := ((Below.refl _ _).alloc (Nat.le_refl _) _).trans (hb1.mono (by simp))
       have H8 := Lib.hid h8
       have h9 : WholeV (w1.alloc (.cells #[.int .i64 22, .int .i64 at_, .int .i64 n, .int .u16 x, .int .u16 an, .int .u16 orr, .slice BA bl bc, .slice WA wl wc, .int .i64 ra, .int .i64 rn, .int .i64 co, .int .i64 ob] 48)) w1.heap.size 48 [.int .i64 22, .int .i64 at_, .int .i64 n, .int .u16 x, .int .u16 an, .int .u16 orr, .slice BA bl bc, .slice WA wl wc, .int .i64 ra, .int .i64 rn, .int .i64 co, .int .i64 ob] := heap_alloc_new w1 _
       have H9 := Lib.hid h9
       have h8b := h8.below ((Below.refl _ _).alloc (Nat.le_refl _) (.cells #[.int .i64 22, .int .i64 at_, .int .i64 n, .int .u16 x, .int .u16 an, .int .u16 orr, .slice BA bl bc, .slice WA wl wc, .int .i64 ra, .int .i64 rn, .int .i64 co, .int .i64 ob] 48)) h8.lt
       have H8b := Lib.hid h8b
       have HB1b := Lib.hid (HB1.out.alloc HB1.out.size (.cells #[.int .i64 22, .int .i64 at_, .int .i64 n, .int .u16 x, .int .u16 an, .int .u16 orr, .slice BA bl bc, .slice WA wl wc, .int .i64 ra, .int .i64 rn, .int .i64 co, .int .i64 ob] 48))
       clear hob how hb1 hk1 h8 h9 h8b)
    | (go_at_call 18
       refine (HE.out BA WA bc wc _).mono ?_
       rintro e w2 ⟨rfl, hb2⟩
       have h9 := H9.out.below hb2 H9.out.lt
       have h8 := H8b.out.below hb2 H8b.out.lt
       have hq0 : w2.cell? ⟨w1.heap.size, 0, none⟩ = some (.int .i64 22) := h9.cell 0
       have hz9 : w1.heap.size < w2.heap.size := h9.lt
       have hz8 : w.heap.size < w2.heap.size := h8.lt
       obtain ⟨hp0, hp1, hp2, hp3, hp4, hp5, hp6, hp7, hp8, hp9, hp10, hp11, hp12, hp13⟩ := cells14 h8
       obtain ⟨hf0, hf1, hf2, hf3, hf4, hf5, hf6, hf7, hf8, hf9, hf10, hf11, hf12, hf13⟩ := frozen14 h8
       have HB2 := Lib.hid (HB1b.out.trans (hb2.mono HB1b.out.size))
       have H82 := Lib.hid h8
       clear h8 h9 hb2))
  exact end14sa Try.results6 H82.out rfl HB2.out (Nat.le_refl _) rfl fun w9 hbb => ⟨none, 0, none, 0, none, 0, rfl, BRow.nil, Row.nil _ _ _ _, ol_none _, hbb⟩

set_option maxRecDepth 100000 in
set_option maxHeartbeats 4000000 in
theorem made_1 (k v : Int) (WS LS : Option Addr) (wn wsc ln lc : Nat) (vs : List Int) (ls : List Bool) (at_ n x an orr : Int) (bl wl : Nat) (ra rn co ob : Int) (bs : List Bool) (ws : List Int) (w : World) (hG : AskGood 1 at_ n x an orr bl wl ra rn co ob bs ws)
    (hA : ∀ w, Calls Try.prog 15 #[.int .i64 k, .int .i64 v] w (AskOf 1 at_ n x an orr bl wl ra rn co ob bs ws w)) (hws : Row .u16 w w.heap.size WS wn vs) (hls : BRow w w.heap.size LS ln ls) :
    Calls Try.prog 6 #[.int .i64 k, .int .i64 v, .slice WS wn wsc, .slice LS ln lc] w (MadeOk ({ fn := 1, bl := ln, bs := ls } : TV) w) := by
  have HA := Lib.hid hA
  have HWS := Lib.hid hws
  have HLS := Lib.hid hls
  have HE := Lib.hid (fun BA WA bc wc W => recho_lit 1 at_ n x an orr bl wl ra rn co ob BA WA bc wc W 0 0 0 0 0 0 (.inr ⟨fun h => by have := h.2; omega, rfl, rfl, rfl, rfl, rfl, rfl⟩))
  clear hG hA hws hls
  go_enter Try.func6, Try.ntmps6
  go_wp2_with (first
    | (go_at_call 15
       refine (HA.out _).mono ?_
       rintro e w1 ⟨BA, WA, bc, wc, rfl, hob, how, hb1⟩
       have hk1 : Below (w.heap.size + 1) (w.alloc (.cells #[.int .i64 0, .int .i64 0, .slice none 0 0, .slice none 0 0, .int .i64 0, .int .i64 0, .int .u16 0, .int .u16 0, .int .u16 0, .int .i64 0, .int .i64 0, .bool false, .int .i64 0, .slice none 0 0] 28)) w1 := by
         rwa [show (w.alloc (.cells #[.int .i64 0, .int .i64 0, .slice none 0 0, .slice none 0 0, .int .i64 0, .int .i64 0, .int .u16 0, .int .u16 0, .int .u16 0, .int .i64 0, .int .i64 0, .bool false, .int .i64 0, .slice none 0 0] 28)).heap.size = w.heap.size + 1 by simp] at hb1
       have h8 := box14 _ _ _ _ _ _ _ _ _ _ _ _ _ _ _ w w1 hk1
       have HB1 : Hid (Below w.heap.size w w1) := ((Below.refl _ _).alloc (Nat.le_refl _) _).trans (hb1.mono (by simp))
       have H8 := Lib.hid h8
       have h9 : WholeV (w1.alloc (.cells #[.int .i64 1, .int .i64 at_, .int .i64 n, .int .u16 x, .int .u16 an, .int .u16 orr, .slice BA bl bc, .slice WA wl wc, .int .i64 ra, .int .i64 rn, .int .i64 co, .int .i64 ob] 48)) w1.heap.size 48 [.int .i64 1, .int .i64 at_, .int .i64 n, .int .u16 x, .int .u16 an, .int .u16 orr, .slice BA bl bc, .slice WA wl wc, .int .i64 ra, .int .i64 rn, .int .i64 co, .int .i64 ob] := heap_alloc_new w1 _
       have H9 := Lib.hid h9
       have h8b := h8.below ((Below.refl _ _).alloc (Nat.le_refl _) (.cells #[.int .i64 1, .int .i64 at_, .int .i64 n, .int .u16 x, .int .u16 an, .int .u16 orr, .slice BA bl bc, .slice WA wl wc, .int .i64 ra, .int .i64 rn, .int .i64 co, .int .i64 ob] 48)) h8.lt
       have H8b := Lib.hid h8b
       have HB1b := Lib.hid (HB1.out.alloc HB1.out.size (.cells #[.int .i64 1, .int .i64 at_, .int .i64 n, .int .u16 x, .int .u16 an, .int .u16 orr, .slice BA bl bc, .slice WA wl wc, .int .i64 ra, .int .i64 rn, .int .i64 co, .int .i64 ob] 48))
       clear hob how hb1 hk1 h8 h9 h8b)
    | (go_at_call 18
       refine (HE.out BA WA bc wc _).mono ?_
       rintro e w2 ⟨rfl, hb2⟩
       have h9 := H9.out.below hb2 H9.out.lt
       have h8 := H8b.out.below hb2 H8b.out.lt
       have hq0 : w2.cell? ⟨w1.heap.size, 0, none⟩ = some (.int .i64 1) := h9.cell 0
       have hz9 : w1.heap.size < w2.heap.size := h9.lt
       have hz8 : w.heap.size < w2.heap.size := h8.lt
       obtain ⟨hp0, hp1, hp2, hp3, hp4, hp5, hp6, hp7, hp8, hp9, hp10, hp11, hp12, hp13⟩ := cells14 h8
       obtain ⟨hf0, hf1, hf2, hf3, hf4, hf5, hf6, hf7, hf8, hf9, hf10, hf11, hf12, hf13⟩ := frozen14 h8
       have HB2 := Lib.hid (HB1b.out.trans (hb2.mono HB1b.out.size))
       have H82 := Lib.hid h8
       clear h8 h9 hb2))
  exact end14sa Try.results6 H82.out rfl HB2.out (Nat.le_refl _) rfl fun w9 hbb => ⟨LS, lc, none, 0, none, 0, rfl, (HLS.out.below hbb).more hbb.size, Row.nil _ _ _ _, ol_none _, hbb⟩

set_option maxRecDepth 100000 in
set_option maxHeartbeats 4000000 in
theorem made_2 (k v : Int) (WS LS : Option Addr) (wn wsc ln lc : Nat) (vs : List Int) (ls : List Bool) (at_ n x an orr : Int) (bl wl : Nat) (ra rn co ob : Int) (bs : List Bool) (ws : List Int) (w : World) (hG : AskGood 2 at_ n x an orr bl wl ra rn co ob bs ws)
    (hA : ∀ w, Calls Try.prog 15 #[.int .i64 k, .int .i64 v] w (AskOf 2 at_ n x an orr bl wl ra rn co ob bs ws w)) (hws : Row .u16 w w.heap.size WS wn vs) (hls : BRow w w.heap.size LS ln ls) :
    Calls Try.prog 6 #[.int .i64 k, .int .i64 v, .slice WS wn wsc, .slice LS ln lc] w (MadeOk ({ fn := 2, bl := ln, bs := ls } : TV) w) := by
  have HA := Lib.hid hA
  have HWS := Lib.hid hws
  have HLS := Lib.hid hls
  have HE := Lib.hid (fun BA WA bc wc W => recho_lit 2 at_ n x an orr bl wl ra rn co ob BA WA bc wc W 0 0 0 0 0 0 (.inr ⟨fun h => by have := h.2; omega, rfl, rfl, rfl, rfl, rfl, rfl⟩))
  clear hG hA hws hls
  go_enter Try.func6, Try.ntmps6
  go_wp2_with (first
    | (go_at_call 15
       refine (HA.out _).mono ?_
       rintro e w1 ⟨BA, WA, bc, wc, rfl, hob, how, hb1⟩
       have hk1 : Below (w.heap.size + 1) (w.alloc (.cells #[.int .i64 0, .int .i64 0, .slice none 0 0, .slice none 0 0, .int .i64 0, .int .i64 0, .int .u16 0, .int .u16 0, .int .u16 0, .int .i64 0, .int .i64 0, .bool false, .int .i64 0, .slice none 0 0] 28)) w1 := by
         rwa [show (w.alloc (.cells #[.int .i64 0, .int .i64 0, .slice none 0 0, .slice none 0 0, .int .i64 0, .int .i64 0, .int .u16 0, .int .u16 0, .int .u16 0, .int .i64 0, .int .i64 0, .bool false, .int .i64 0, .slice none 0 0] 28)).heap.size = w.heap.size + 1 by simp] at hb1
       have h8 := box14 _ _ _ _ _ _ _ _ _ _ _ _ _ _ _ w w1 hk1
       have HB1 : Hid (Below w.heap.size w w1) := ((Below.refl _ _).alloc (Nat.le_refl _) _).trans (hb1.mono (by simp))
       have H8 := Lib.hid h8
       have h9 : WholeV (w1.alloc (.cells #[.int .i64 2, .int .i64 at_, .int .i64 n, .int .u16 x, .int .u16 an, .int .u16 orr, .slice BA bl bc, .slice WA wl wc, .int .i64 ra, .int .i64 rn, .int .i64 co, .int .i64 ob] 48)) w1.heap.size 48 [.int .i64 2, .int .i64 at_, .int .i64 n, .int .u16 x, .int .u16 an, .int .u16 orr, .slice BA bl bc, .slice WA wl wc, .int .i64 ra, .int .i64 rn, .int .i64 co, .int .i64 ob] := heap_alloc_new w1 _
       have H9 := Lib.hid h9
       have h8b := h8.below ((Below.refl _ _).alloc (Nat.le_refl _) (.cells #[.int .i64 2, .int .i64 at_, .int .i64 n, .int .u16 x, .int .u16 an, .int .u16 orr, .slice BA bl bc, .slice WA wl wc, .int .i64 ra, .int .i64 rn, .int .i64 co, .int .i64 ob] 48)) h8.lt
       have H8b := Lib.hid h8b
       have HB1b := Lib.hid (HB1.out.alloc HB1.out.size (.cells #[.int .i64 2, .int .i64 at_, .int .i64 n, .int .u16 x, .int .u16 an, .int .u16 orr, .slice BA bl bc, .slice WA wl wc, .int .i64 ra, .int .i64 rn, .int .i64 co, .int .i64 ob] 48))
       clear hob how hb1 hk1 h8 h9 h8b)
    | (go_at_call 18
       refine (HE.out BA WA bc wc _).mono ?_
       rintro e w2 ⟨rfl, hb2⟩
       have h9 := H9.out.below hb2 H9.out.lt
       have h8 := H8b.out.below hb2 H8b.out.lt
       have hq0 : w2.cell? ⟨w1.heap.size, 0, none⟩ = some (.int .i64 2) := h9.cell 0
       have hz9 : w1.heap.size < w2.heap.size := h9.lt
       have hz8 : w.heap.size < w2.heap.size := h8.lt
       obtain ⟨hp0, hp1, hp2, hp3, hp4, hp5, hp6, hp7, hp8, hp9, hp10, hp11, hp12, hp13⟩ := cells14 h8
       obtain ⟨hf0, hf1, hf2, hf3, hf4, hf5, hf6, hf7, hf8, hf9, hf10, hf11, hf12, hf13⟩ := frozen14 h8
       have HB2 := Lib.hid (HB1b.out.trans (hb2.mono HB1b.out.size))
       have H82 := Lib.hid h8
       clear h8 h9 hb2))
  exact end14sa Try.results6 H82.out rfl HB2.out (Nat.le_refl _) rfl fun w9 hbb => ⟨LS, lc, none, 0, none, 0, rfl, (HLS.out.below hbb).more hbb.size, Row.nil _ _ _ _, ol_none _, hbb⟩

set_option maxRecDepth 100000 in
set_option maxHeartbeats 4000000 in
theorem made_3 (k v : Int) (WS LS : Option Addr) (wn wsc ln lc : Nat) (vs : List Int) (ls : List Bool) (at_ n x an orr : Int) (bl wl : Nat) (ra rn co ob : Int) (bs : List Bool) (ws : List Int) (w : World) (hG : AskGood 3 at_ n x an orr bl wl ra rn co ob bs ws)
    (hA : ∀ w, Calls Try.prog 15 #[.int .i64 k, .int .i64 v] w (AskOf 3 at_ n x an orr bl wl ra rn co ob bs ws w)) (hws : Row .u16 w w.heap.size WS wn vs) (hls : BRow w w.heap.size LS ln ls) :
    Calls Try.prog 6 #[.int .i64 k, .int .i64 v, .slice WS wn wsc, .slice LS ln lc] w (MadeOk ({ fn := 3, wl := wn, ws := vs } : TV) w) := by
  have HA := Lib.hid hA
  have HWS := Lib.hid hws
  have HLS := Lib.hid hls
  have HE := Lib.hid (fun BA WA bc wc W => recho_lit 3 at_ n x an orr bl wl ra rn co ob BA WA bc wc W 0 0 0 0 0 0 (.inr ⟨fun h => by have := h.2; omega, rfl, rfl, rfl, rfl, rfl, rfl⟩))
  clear hG hA hws hls
  go_enter Try.func6, Try.ntmps6
  go_wp2_with (first
    | (go_at_call 15
       refine (HA.out _).mono ?_
       rintro e w1 ⟨BA, WA, bc, wc, rfl, hob, how, hb1⟩
       have hk1 : Below (w.heap.size + 1) (w.alloc (.cells #[.int .i64 0, .int .i64 0, .slice none 0 0, .slice none 0 0, .int .i64 0, .int .i64 0, .int .u16 0, .int .u16 0, .int .u16 0, .int .i64 0, .int .i64 0, .bool false, .int .i64 0, .slice none 0 0] 28)) w1 := by
         rwa [show (w.alloc (.cells #[.int .i64 0, .int .i64 0, .slice none 0 0, .slice none 0 0, .int .i64 0, .int .i64 0, .int .u16 0, .int .u16 0, .int .u16 0, .int .i64 0, .int .i64 0, .bool false, .int .i64 0, .slice none 0 0] 28)).heap.size = w.heap.size + 1 by simp] at hb1
       have h8 := box14 _ _ _ _ _ _ _ _ _ _ _ _ _ _ _ w w1 hk1
       have HB1 : Hid (Below w.heap.size w w1) := ((Below.refl _ _).alloc (Nat.le_refl _) _).trans (hb1.mono (by simp))
       have H8 := Lib.hid h8
       have h9 : WholeV (w1.alloc (.cells #[.int .i64 3, .int .i64 at_, .int .i64 n, .int .u16 x, .int .u16 an, .int .u16 orr, .slice BA bl bc, .slice WA wl wc, .int .i64 ra, .int .i64 rn, .int .i64 co, .int .i64 ob] 48)) w1.heap.size 48 [.int .i64 3, .int .i64 at_, .int .i64 n, .int .u16 x, .int .u16 an, .int .u16 orr, .slice BA bl bc, .slice WA wl wc, .int .i64 ra, .int .i64 rn, .int .i64 co, .int .i64 ob] := heap_alloc_new w1 _
       have H9 := Lib.hid h9
       have h8b := h8.below ((Below.refl _ _).alloc (Nat.le_refl _) (.cells #[.int .i64 3, .int .i64 at_, .int .i64 n, .int .u16 x, .int .u16 an, .int .u16 orr, .slice BA bl bc, .slice WA wl wc, .int .i64 ra, .int .i64 rn, .int .i64 co, .int .i64 ob] 48)) h8.lt
       have H8b := Lib.hid h8b
       have HB1b := Lib.hid (HB1.out.alloc HB1.out.size (.cells #[.int .i64 3, .int .i64 at_, .int .i64 n, .int .u16 x, .int .u16 an, .int .u16 orr, .slice BA bl bc, .slice WA wl wc, .int .i64 ra, .int .i64 rn, .int .i64 co, .int .i64 ob] 48))
       clear hob how hb1 hk1 h8 h9 h8b)
    | (go_at_call 18
       refine (HE.out BA WA bc wc _).mono ?_
       rintro e w2 ⟨rfl, hb2⟩
       have h9 := H9.out.below hb2 H9.out.lt
       have h8 := H8b.out.below hb2 H8b.out.lt
       have hq0 : w2.cell? ⟨w1.heap.size, 0, none⟩ = some (.int .i64 3) := h9.cell 0
       have hz9 : w1.heap.size < w2.heap.size := h9.lt
       have hz8 : w.heap.size < w2.heap.size := h8.lt
       obtain ⟨hp0, hp1, hp2, hp3, hp4, hp5, hp6, hp7, hp8, hp9, hp10, hp11, hp12, hp13⟩ := cells14 h8
       obtain ⟨hf0, hf1, hf2, hf3, hf4, hf5, hf6, hf7, hf8, hf9, hf10, hf11, hf12, hf13⟩ := frozen14 h8
       have HB2 := Lib.hid (HB1b.out.trans (hb2.mono HB1b.out.size))
       have H82 := Lib.hid h8
       clear h8 h9 hb2))
  exact end14sa Try.results6 H82.out rfl HB2.out (Nat.le_refl _) rfl fun w9 hbb => ⟨none, 0, WS, wsc, none, 0, rfl, BRow.nil, (HWS.out.below hbb).more hbb.size, ol_none _, hbb⟩

set_option maxRecDepth 100000 in
set_option maxHeartbeats 4000000 in
theorem made_4 (k v : Int) (WS LS : Option Addr) (wn wsc ln lc : Nat) (vs : List Int) (ls : List Bool) (at_ n x an orr : Int) (bl wl : Nat) (ra rn co ob : Int) (bs : List Bool) (ws : List Int) (w : World) (hG : AskGood 4 at_ n x an orr bl wl ra rn co ob bs ws)
    (hA : ∀ w, Calls Try.prog 15 #[.int .i64 k, .int .i64 v] w (AskOf 4 at_ n x an orr bl wl ra rn co ob bs ws w)) (hws : Row .u16 w w.heap.size WS wn vs) (hls : BRow w w.heap.size LS ln ls) :
    Calls Try.prog 6 #[.int .i64 k, .int .i64 v, .slice WS wn wsc, .slice LS ln lc] w (MadeOk ({ fn := 4, wl := wn, ws := vs } : TV) w) := by
  have HA := Lib.hid hA
  have HWS := Lib.hid hws
  have HLS := Lib.hid hls
  have HE := Lib.hid (fun BA WA bc wc W => recho_lit 4 at_ n x an orr bl wl ra rn co ob BA WA bc wc W 0 0 0 0 0 0 (.inr ⟨fun h => by have := h.2; omega, rfl, rfl, rfl, rfl, rfl, rfl⟩))
  clear hG hA hws hls
  go_enter Try.func6, Try.ntmps6
  go_wp2_with (first
    | (go_at_call 15
       refine (HA.out _).mono ?_
       rintro e w1 ⟨BA, WA, bc, wc, rfl, hob, how, hb1⟩
       have hk1 : Below (w.heap.size + 1) (w.alloc (.cells #[.int .i64 0, .int .i64 0, .slice none 0 0, .slice none 0 0, .int .i64 0, .int .i64 0, .int .u16 0, .int .u16 0, .int .u16 0, .int .i64 0, .int .i64 0, .bool false, .int .i64 0, .slice none 0 0] 28)) w1 := by
         rwa [show (w.alloc (.cells #[.int .i64 0, .int .i64 0, .slice none 0 0, .slice none 0 0, .int .i64 0, .int .i64 0, .int .u16 0, .int .u16 0, .int .u16 0, .int .i64 0, .int .i64 0, .bool false, .int .i64 0, .slice none 0 0] 28)).heap.size = w.heap.size + 1 by simp] at hb1
       have h8 := box14 _ _ _ _ _ _ _ _ _ _ _ _ _ _ _ w w1 hk1
       have HB1 : Hid (Below w.heap.size w w1) := ((Below.refl _ _).alloc (Nat.le_refl _) _).trans (hb1.mono (by simp))
       have H8 := Lib.hid h8
       have h9 : WholeV (w1.alloc (.cells #[.int .i64 4, .int .i64 at_, .int .i64 n, .int .u16 x, .int .u16 an, .int .u16 orr, .slice BA bl bc, .slice WA wl wc, .int .i64 ra, .int .i64 rn, .int .i64 co, .int .i64 ob] 48)) w1.heap.size 48 [.int .i64 4, .int .i64 at_, .int .i64 n, .int .u16 x, .int .u16 an, .int .u16 orr, .slice BA bl bc, .slice WA wl wc, .int .i64 ra, .int .i64 rn, .int .i64 co, .int .i64 ob] := heap_alloc_new w1 _
       have H9 := Lib.hid h9
       have h8b := h8.below ((Below.refl _ _).alloc (Nat.le_refl _) (.cells #[.int .i64 4, .int .i64 at_, .int .i64 n, .int .u16 x, .int .u16 an, .int .u16 orr, .slice BA bl bc, .slice WA wl wc, .int .i64 ra, .int .i64 rn, .int .i64 co, .int .i64 ob] 48)) h8.lt
       have H8b := Lib.hid h8b
       have HB1b := Lib.hid (HB1.out.alloc HB1.out.size (.cells #[.int .i64 4, .int .i64 at_, .int .i64 n, .int .u16 x, .int .u16 an, .int .u16 orr, .slice BA bl bc, .slice WA wl wc, .int .i64 ra, .int .i64 rn, .int .i64 co, .int .i64 ob] 48))
       clear hob how hb1 hk1 h8 h9 h8b)
    | (go_at_call 18
       refine (HE.out BA WA bc wc _).mono ?_
       rintro e w2 ⟨rfl, hb2⟩
       have h9 := H9.out.below hb2 H9.out.lt
       have h8 := H8b.out.below hb2 H8b.out.lt
       have hq0 : w2.cell? ⟨w1.heap.size, 0, none⟩ = some (.int .i64 4) := h9.cell 0
       have hz9 : w1.heap.size < w2.heap.size := h9.lt
       have hz8 : w.heap.size < w2.heap.size := h8.lt
       obtain ⟨hp0, hp1, hp2, hp3, hp4, hp5, hp6, hp7, hp8, hp9, hp10, hp11, hp12, hp13⟩ := cells14 h8
       obtain ⟨hf0, hf1, hf2, hf3, hf4, hf5, hf6, hf7, hf8, hf9, hf10, hf11, hf12, hf13⟩ := frozen14 h8
       have HB2 := Lib.hid (HB1b.out.trans (hb2.mono HB1b.out.size))
       have H82 := Lib.hid h8
       clear h8 h9 hb2))
  exact end14sa Try.results6 H82.out rfl HB2.out (Nat.le_refl _) rfl fun w9 hbb => ⟨none, 0, WS, wsc, none, 0, rfl, BRow.nil, (HWS.out.below hbb).more hbb.size, ol_none _, hbb⟩

set_option maxRecDepth 100000 in
set_option maxHeartbeats 4000000 in
theorem made_23 (k v : Int) (WS LS : Option Addr) (wn wsc ln lc : Nat) (vs : List Int) (ls : List Bool) (at_ n x an orr : Int) (bl wl : Nat) (ra rn co ob : Int) (bs : List Bool) (ws : List Int) (w : World) (hG : AskGood 23 at_ n x an orr bl wl ra rn co ob bs ws)
    (hA : ∀ w, Calls Try.prog 15 #[.int .i64 k, .int .i64 v] w (AskOf 23 at_ n x an orr bl wl ra rn co ob bs ws w)) (hws : Row .u16 w w.heap.size WS wn vs) (hls : BRow w w.heap.size LS ln ls) :
    Calls Try.prog 6 #[.int .i64 k, .int .i64 v, .slice WS wn wsc, .slice LS ln lc] w (MadeOk ({ fn := 23, wl := wn, ws := vs } : TV) w) := by
  have HA := Lib.hid hA
  have HWS := Lib.hid hws
  have HLS := Lib.hid hls
  have HE := Lib.hid (fun BA WA bc wc W => recho_lit 23 at_ n x an orr bl wl ra rn co ob BA WA bc wc W 0 0 0 0 0 0 (.inr ⟨fun h => by have := h.2; omega, rfl, rfl, rfl, rfl, rfl, rfl⟩))
  clear hG hA hws hls
  go_enter Try.func6, Try.ntmps6
  go_wp2_with (first
    | (go_at_call 15
       refine (HA.out _).mono ?_
       rintro e w1 ⟨BA, WA, bc, wc, rfl, hob, how, hb1⟩
       have hk1 : Below (w.heap.size + 1) (w.alloc (.cells #[.int .i64 0, .int .i64 0, .slice none 0 0, .slice none 0 0, .int .i64 0, .int .i64 0, .int .u16 0, .int .u16 0, .int .u16 0, .int .i64 0, .int .i64 0, .bool false, .int .i64 0, .slice none 0 0] 28)) w1 := by
         rwa [show (w.alloc (.cells #[.int .i64 0, .int .i64 0, .slice none 0 0, .slice none 0 0, .int .i64 0, .int .i64 0, .int .u16 0, .int .u16 0, .int .u16 0, .int .i64 0, .int .i64 0, .bool false, .int .i64 0, .slice none 0 0] 28)).heap.size = w.heap.size + 1 by simp] at hb1
       have h8 := box14 _ _ _ _ _ _ _ _ _ _ _ _ _ _ _ w w1 hk1
       have HB1 : Hid (Below w.heap.size w w1) := ((Below.refl _ _).alloc (Nat.le_refl _) _).trans (hb1.mono (by simp))
       have H8 := Lib.hid h8
       have h9 : WholeV (w1.alloc (.cells #[.int .i64 23, .int .i64 at_, .int .i64 n, .int .u16 x, .int .u16 an, .int .u16 orr, .slice BA bl bc, .slice WA wl wc, .int .i64 ra, .int .i64 rn, .int .i64 co, .int .i64 ob] 48)) w1.heap.size 48 [.int .i64 23, .int .i64 at_, .int .i64 n, .int .u16 x, .int .u16 an, .int .u16 orr, .slice BA bl bc, .slice WA wl wc, .int .i64 ra, .int .i64 rn, .int .i64 co, .int .i64 ob] := heap_alloc_new w1 _
       have H9 := Lib.hid h9
       have h8b := h8.below ((Below.refl _ _).alloc (Nat.le_refl _) (.cells #[.int .i64 23, .int .i64 at_, .int .i64 n, .int .u16 x, .int .u16 an, .int .u16 orr, .slice BA bl bc, .slice WA wl wc, .int .i64 ra, .int .i64 rn, .int .i64 co, .int .i64 ob] 48)) h8.lt
       have H8b := Lib.hid h8b
       have HB1b := Lib.hid (HB1.out.alloc HB1.out.size (.cells #[.int .i64 23, .int .i64 at_, .int .i64 n, .int .u16 x, .int .u16 an, .int .u16 orr, .slice BA bl bc, .slice WA wl wc, .int .i64 ra, .int .i64 rn, .int .i64 co, .int .i64 ob] 48))
       clear hob how hb1 hk1 h8 h9 h8b)
    | (go_at_call 18
       refine (HE.out BA WA bc wc _).mono ?_
       rintro e w2 ⟨rfl, hb2⟩
       have h9 := H9.out.below hb2 H9.out.lt
       have h8 := H8b.out.below hb2 H8b.out.lt
       have hq0 : w2.cell? ⟨w1.heap.size, 0, none⟩ = some (.int .i64 23) := h9.cell 0
       have hz9 : w1.heap.size < w2.heap.size := h9.lt
       have hz8 : w.heap.size < w2.heap.size := h8.lt
       obtain ⟨hp0, hp1, hp2, hp3, hp4, hp5, hp6, hp7, hp8, hp9, hp10, hp11, hp12, hp13⟩ := cells14 h8
       obtain ⟨hf0, hf1, hf2, hf3, hf4, hf5, hf6, hf7, hf8, hf9, hf10, hf11, hf12, hf13⟩ := frozen14 h8
       have HB2 := Lib.hid (HB1b.out.trans (hb2.mono HB1b.out.size))
       have H82 := Lib.hid h8
       clear h8 h9 hb2))
  exact end14sa Try.results6 H82.out rfl HB2.out (Nat.le_refl _) rfl fun w9 hbb => ⟨none, 0, WS, wsc, none, 0, rfl, BRow.nil, (HWS.out.below hbb).more hbb.size, ol_none _, hbb⟩

/-- The objects that made lays: each of its place's number, and so many noughts. -/
def madeO (vs : List Int) (j : Nat) : List Ob := (List.range j).map fun (i : Nat) => (((i : Nat) : Int), strOfNums (List.replicate (vs.getD i 0 % 20).toNat 0))
theorem madeO_length (vs : List Int) (j : Nat) : (madeO vs j).length = j := by simp [madeO]
theorem madeO_succ (vs : List Int) (j : Nat) : madeO vs (j + 1) = madeO vs j ++ [((j : Int), strOfNums (List.replicate (vs.getD j 0 % 20).toNat 0))] := by simp [madeO, List.range_succ]

set_option maxRecDepth 100000 in
set_option maxHeartbeats 4000000 in
theorem made_43 (k v : Int) (WS LS : Option Addr) (wn wsc ln lc : Nat) (vs : List Int) (ls : List Bool) (at_ n x an orr : Int) (bl wl : Nat) (ra rn co ob : Int) (bs : List Bool) (ws : List Int) (w : World) (hG : AskGood 43 at_ n x an orr bl wl ra rn co ob bs ws)
    (hA : ∀ w, Calls Try.prog 15 #[.int .i64 k, .int .i64 v] w (AskOf 43 at_ n x an orr bl wl ra rn co ob bs ws w)) (hws : Row .u16 w w.heap.size WS wn vs) (hls : BRow w w.heap.size LS ln ls)
    (k0 : -9223372036854775808 ≤ k) (k1 : k ≤ 9223372036854775807) (hvs : Words vs) (J : Nat) (hJ : J = min wn 9) (mo : Bool) (hmo : (k % 3 == 0) = mo) (nx : Nat) (hnx : (k.tdiv 3) % 256 = (nx : Int)) :
    Calls Try.prog 6 #[.int .i64 k, .int .i64 v, .slice WS wn wsc, .slice LS ln lc] w (MadeOk ({ fn := 43, co := co, le := 129, mo := mo, nx := (nx : Int), ol := J, os := madeO vs J } : TV) w) := by
  have HA := Lib.hid hA
  have HWS := Lib.hid hws
  have HLS := Lib.hid hls
  have HVS := Lib.hid hvs
  have HJ := Lib.hid hJ
  have HE := Lib.hid (fun BA WA bc wc W => recho_lit 43 at_ n x an orr bl wl ra rn co ob BA WA bc wc W 0 0 0 0 0 0 (.inr ⟨fun h => by have := h.2; omega, rfl, rfl, rfl, rfl, rfl, rfl⟩))
  obtain ⟨kz, hkz⟩ : ∃ kz, k % 3 = kz := ⟨_, rfl⟩
  have C3 := Lib.hid (fun W => within_any k 3 W k0 k1 (by omega) (by omega))
  rw [hkz] at C3 hmo
  have CD := Lib.hid (fun W => digit_by k 3 256 nx W hnx k0 k1 (by omega) (by omega) (by omega) (by omega))
  clear hG hA hws hls hvs hJ hnx hkz
  go_enter Try.func6, Try.ntmps6
  go_upto_region 12 with (first
    | (go_at_call 15
       refine (HA.out _).mono ?_
       rintro e w1 ⟨BA, WA, bc, wc, rfl, hob, how, hb1⟩
       have hk1 : Below (w.heap.size + 1) (w.alloc (.cells #[.int .i64 0, .int .i64 0, .slice none 0 0, .slice none 0 0, .int .i64 0, .int .i64 0, .int .u16 0, .int .u16 0, .int .u16 0, .int .i64 0, .int .i64 0, .bool false, .int .i64 0, .slice none 0 0] 28)) w1 := by
         rwa [show (w.alloc (.cells #[.int .i64 0, .int .i64 0, .slice none 0 0, .slice none 0 0, .int .i64 0, .int .i64 0, .int .u16 0, .int .u16 0, .int .u16 0, .int .i64 0, .int .i64 0, .bool false, .int .i64 0, .slice none 0 0] 28)).heap.size = w.heap.size + 1 by simp] at hb1
       have h8 := box14 _ _ _ _ _ _ _ _ _ _ _ _ _ _ _ w w1 hk1
       have HB1 : Hid (Below w.heap.size w w1) := ((Below.refl _ _).alloc (Nat.le_refl _) _).trans (hb1.mono (by simp))
       have H8 := Lib.hid h8
       have h9 : WholeV (w1.alloc (.cells #[.int .i64 43, .int .i64 at_, .int .i64 n, .int .u16 x, .int .u16 an, .int .u16 orr, .slice BA bl bc, .slice WA wl wc, .int .i64 ra, .int .i64 rn, .int .i64 co, .int .i64 ob] 48)) w1.heap.size 48 [.int .i64 43, .int .i64 at_, .int .i64 n, .int .u16 x, .int .u16 an, .int .u16 orr, .slice BA bl bc, .slice WA wl wc, .int .i64 ra, .int .i64 rn, .int .i64 co, .int .i64 ob] := heap_alloc_new w1 _
       have H9 := Lib.hid h9
       have h8b := h8.below ((Below.refl _ _).alloc (Nat.le_refl _) (.cells #[.int .i64 43, .int .i64 at_, .int .i64 n, .int .u16 x, .int .u16 an, .int .u16 orr, .slice BA bl bc, .slice WA wl wc, .int .i64 ra, .int .i64 rn, .int .i64 co, .int .i64 ob] 48)) h8.lt
       have H8b := Lib.hid h8b
       have HB1b := Lib.hid (HB1.out.alloc HB1.out.size (.cells #[.int .i64 43, .int .i64 at_, .int .i64 n, .int .u16 x, .int .u16 an, .int .u16 orr, .slice BA bl bc, .slice WA wl wc, .int .i64 ra, .int .i64 rn, .int .i64 co, .int .i64 ob] 48))
       clear hob how hb1 hk1 h8 h9 h8b)
    | (go_at_call 18
       refine (HE.out BA WA bc wc _).mono ?_
       rintro e w2 ⟨rfl, hb2⟩
       have h9 := H9.out.below hb2 H9.out.lt
       have h8 := H8b.out.below hb2 H8b.out.lt
       have hq0 : w2.cell? ⟨w1.heap.size, 0, none⟩ = some (.int .i64 43) := h9.cell 0
       have hz9 : w1.heap.size < w2.heap.size := h9.lt
       have HB2 := Lib.hid (HB1b.out.trans (hb2.mono HB1b.out.size))
       have H82 := Lib.hid h8
       have H92 := Lib.hid h9
       clear h8 h9 hb2))
  obtain ⟨X, hX⟩ : ∃ X, w2.alloc (.cells #[.int .i64 0, .int .i64 0, .slice none 0 0, .slice none 0 0, .int .i64 0, .int .i64 0, .int .u16 0, .int .u16 0, .int .u16 0, .int .i64 0, .int .i64 0, .bool false, .int .i64 0, .slice none 0 0] 28) = X := ⟨_, rfl⟩
  obtain ⟨g, hg⟩ : ∃ g, w2.heap.size = g := ⟨_, rfl⟩
  have G4 : Hid (WholeV X g 28 [.int .i64 0, .int .i64 0, .slice none 0 0, .slice none 0 0, .int .i64 0, .int .i64 0, .int .u16 0, .int .u16 0, .int .u16 0, .int .i64 0, .int .i64 0, .bool false, .int .i64 0, .slice none 0 0]) := by rw [← hX, ← hg]; exact heap_alloc_new w2 _
  have G2 : Hid (WholeV X w.heap.size 28 [.int .i64 0, .int .i64 0, .slice none 0 0, .slice none 0 0, .int .i64 0, .int .i64 0, .int .u16 0, .int .u16 0, .int .u16 0, .int .i64 0, .int .i64 0, .bool false, .int .i64 0, .slice none 0 0]) := by rw [← hX]; exact H82.out.below ((Below.refl _ _).alloc (Nat.le_refl _) _) H82.out.lt
  have hq10 : X.cell? ⟨w1.heap.size, 10, none⟩ = some (.int .i64 co) := by rw [← hX]; exact (H92.out.below ((Below.refl _ _).alloc (Nat.le_refl _) _) H92.out.lt).cell 10
  have GB : Hid (Below w.heap.size w X) := by rw [← hX]; exact HB2.out.alloc HB2.out.size _
  have HGW : Hid (w.heap.size < g ∧ w1.heap.size < g) := by rw [← hg]; exact ⟨H82.out.lt, hz9⟩
  have hgne : w1.heap.size ≠ g := by have := HGW.out; omega
  have hgl : w.heap.size ≤ g := Nat.le_of_lt HGW.out.1
  have hgn2 : w.heap.size ≠ g := by have := HGW.out; omega
  have hzX : g < X.heap.size := G4.out.lt
  obtain ⟨hs0, hs1, hs2, hs3, hs4, hs5, hs6, hs7, hs8, hs9, hs10, hs11, hs12, hs13⟩ := cells14 G4.out
  obtain ⟨hf0, hf1, hf2, hf3, hf4, hf5, hf6, hf7, hf8, hf9, hf10, hf11, hf12, hf13⟩ := frozen14 G4.out
  rw [hX, hg]
  clear hX hq0 hz9 hg H82 H92
  go_cut [] from 35 to 43 (fun wx => Hid (WholeV wx g 28 [.int .i64 43, .int .i64 0, .slice none 0 0, .slice none 0 0, .int .i64 0, .int .i64 0, .int .u16 0, .int .u16 0, .int .u16 0, .int .i64 co, .int .i64 129, .bool mo, .int .i64 (nx : Int), .slice none 0 0]) ∧ Hid (WholeV wx w.heap.size 28 [.int .i64 0, .int .i64 0, .slice none 0 0, .slice none 0 0, .int .i64 0, .int .i64 0, .int .u16 0, .int .u16 0, .int .u16 0, .int .i64 0, .int .i64 0, .bool false, .int .i64 0, .slice none 0 0]) ∧ Hid (Below w.heap.size w wx))
  case first =>
    go_region_with (first
      | (go_at_call 11; (with_reducible refine (C3.out _).mono ?_); rintro e w' ⟨rfl, rfl⟩)
      | (go_at_call 19; (with_reducible refine (CD.out _).mono ?_); rintro e w' ⟨rfl, rfl⟩))
    all_goals
      go_wp2_with fail
      go_meet
      obtain ⟨Y, hY⟩ : ∃ Y, ((((((((((((((X.setCell ⟨g, 0, none⟩ (.int .i64 43)).setCell ⟨g, 1, none⟩ (.int .i64 0)).setCell ⟨g, 2, none⟩ (.slice none 0 0)).setCell ⟨g, 3, none⟩ (.slice none 0 0)).setCell ⟨g, 4, none⟩ (.int .i64 0)).setCell ⟨g, 5, none⟩ (.int .i64 0)).setCell ⟨g, 6, none⟩ (.int .u16 0)).setCell ⟨g, 7, none⟩ (.int .u16 0)).setCell ⟨g, 8, none⟩ (.int .u16 0)).setCell ⟨g, 9, none⟩ (.int .i64 co)).setCell ⟨g, 10, none⟩ (.int .i64 129)).setCell ⟨g, 11, none⟩ (.bool mo)).setCell ⟨g, 12, none⟩ (.int .i64 (nx : Int))).setCell ⟨g, 13, none⟩ (.slice none 0 0)) = Y := ⟨_, rfl⟩
      have hwh := all14 G4.out (.int .i64 43) (.int .i64 0) (.slice none 0 0) (.slice none 0 0) (.int .i64 0) (.int .i64 0) (.int .u16 0) (.int .u16 0) (.int .u16 0) (.int .i64 co) (.int .i64 129) (.bool mo) (.int .i64 (nx : Int)) (.slice none 0 0) rfl
      have hw2 := (whole_far (whole_far (whole_far (whole_far (whole_far (whole_far (whole_far (whole_far (whole_far (whole_far (whole_far (whole_far (whole_far (whole_far G2.out hgn2 0 (.int .i64 43)) hgn2 1 (.int .i64 0)) hgn2 2 (.slice none 0 0)) hgn2 3 (.slice none 0 0)) hgn2 4 (.int .i64 0)) hgn2 5 (.int .i64 0)) hgn2 6 (.int .u16 0)) hgn2 7 (.int .u16 0)) hgn2 8 (.int .u16 0)) hgn2 9 (.int .i64 co)) hgn2 10 (.int .i64 129)) hgn2 11 (.bool mo)) hgn2 12 (.int .i64 (nx : Int))) hgn2 13 (.slice none 0 0))
      have hb2 := (Below.setCell (Below.setCell (Below.setCell (Below.setCell (Below.setCell (Below.setCell (Below.setCell (Below.setCell (Below.setCell (Below.setCell (Below.setCell (Below.setCell (Below.setCell (Below.setCell GB.out (p := ⟨g, 0, none⟩) hgl (.int .i64 43)) (p := ⟨g, 1, none⟩) hgl (.int .i64 0)) (p := ⟨g, 2, none⟩) hgl (.slice none 0 0)) (p := ⟨g, 3, none⟩) hgl (.slice none 0 0)) (p := ⟨g, 4, none⟩) hgl (.int .i64 0)) (p := ⟨g, 5, none⟩) hgl (.int .i64 0)) (p := ⟨g, 6, none⟩) hgl (.int .u16 0)) (p := ⟨g, 7, none⟩) hgl (.int .u16 0)) (p := ⟨g, 8, none⟩) hgl (.int .u16 0)) (p := ⟨g, 9, none⟩) hgl (.int .i64 co)) (p := ⟨g, 10, none⟩) hgl (.int .i64 129)) (p := ⟨g, 11, none⟩) hgl (.bool mo)) (p := ⟨g, 12, none⟩) hgl (.int .i64 (nx : Int))) (p := ⟨g, 13, none⟩) hgl (.slice none 0 0))
      rw [hY] at hwh hw2 hb2
      rw [hY]
      first
        | exact ⟨hwh, hw2, hb2.drew⟩
        | exact ⟨hwh, hw2, below_drewN hb2 _⟩
        | exact ⟨hwh, hw2, hb2⟩
  case rest =>
    obtain ⟨K4, K2, KB⟩ := hcut
    clear hs0 hs1 hs2 hs3 hs4 hs5 hs6 hs7 hs8 hs9 hs10 hs11 hs12 hs13 hf0 hf1 hf2 hf3 hf4 hf5 hf6 hf7 hf8 hf9 hf10 hf11 hf12 hf13 G4 G2 GB hq10
    go_wp2_with fail
    obtain ⟨wo, hwo⟩ : ∃ wo, wo = wc := ⟨_, rfl⟩
    subst hwo
    go_loopw [11] (fun i wr => ∃ (j oc : Nat) (OA : Option Addr), j ≤ J ∧ i = .int .i64 (j : Int) ∧ Hid (WholeV wr g 28 [.int .i64 43, .int .i64 0, .slice none 0 0, .slice none 0 0, .int .i64 0, .int .i64 0, .int .u16 0, .int .u16 0, .int .u16 0, .int .i64 co, .int .i64 129, .bool mo, .int .i64 (nx : Int), .slice OA j oc]) ∧ Hid (WholeV wr w.heap.size 28 [.int .i64 0, .int .i64 0, .slice none 0 0, .slice none 0 0, .int .i64 0, .int .i64 0, .int .u16 0, .int .u16 0, .int .u16 0, .int .i64 0, .int .i64 0, .bool false, .int .i64 0, .slice none 0 0]) ∧ Hid (wr.ownsRow (g + 1) 57 2 (.slice OA j oc) j (obs (madeO vs j))) ∧ Hid (Below w.heap.size w wr)) (fun i _ => J - (intOf i).toNat)
    case atStart => exact ⟨0, 0, none, by omega, rfl, K4, K2, own2_none _ _ _, KB⟩
    case round =>
      obtain ⟨j, oc, OA, hj, rfl, H4, H2, HO, HB⟩ := hrel
      obtain ⟨ks0, ks1, ks2, ks3, ks4, ks5, ks6, ks7, ks8, ks9, ks10, ks11, ks12, ks13⟩ := cells14 H4.out
      obtain ⟨kp0, kp1, kp2, kp3, kp4, kp5, kp6, kp7, kp8, kp9, kp10, kp11, kp12, kp13⟩ := cells14 H2.out
      obtain ⟨kf0, kf1, kf2, kf3, kf4, kf5, kf6, kf7, kf8, kf9, kf10, kf11, kf12, kf13⟩ := frozen14 H4.out
      obtain ⟨kg0, kg1, kg2, kg3, kg4, kg5, kg6, kg7, kg8, kg9, kg10, kg11, kg12, kg13⟩ := frozen14 H2.out
      have hzr : g < wr.heap.size := H4.out.lt
      have hzw : w.heap.size < wr.heap.size := H2.out.lt
      by_cases hlt : j < J
      · have hjn : (j : Int) < (wn : Int) := by have := HJ.out; omega
        have hj9 : (j : Int) < 9 := by have := HJ.out; omega
        have hjw : j < wn := by have := HJ.out; omega
        obtain ⟨bW, offW, hW, hbW, hcell⟩ := HWS.out.2 (by omega)
        subst hW
        obtain ⟨y, hy⟩ : ∃ y, vs.getD j 0 = y := ⟨_, rfl⟩
        have hyb : 0 ≤ y ∧ y ≤ 65535 := by rw [← hy]; exact (by have := HVS.out.at_ j; rwa [← List.getD_eq_getElem?_getD] at this)
        have hcy : wr.cell? ⟨bW, offW + j, none⟩ = some (.int .u16 y) := (HB.out.cell (p := ⟨bW, offW + j, none⟩) hbW).trans ((hcell j hjw).trans (by rw [hy]))
        obtain ⟨L, hL⟩ : ∃ L : Nat, y % 20 = (L : Int) := Int.eq_ofNat_of_zero_le (by omega)
        have hL20 : L < 20 := by omega
        have ht : y.tmod 20 = (L : Int) := by rw [Int.tmod_eq_emod_of_nonneg hyb.1]; exact hL
        have wL16 : IntKind.u16.wrap (L : Int) = (L : Int) := IntWalk.u16_in _ (by omega)
        have wL64 : IntKind.i64.wrap (L : Int) = (L : Int) := IntWalk.i64_in _ (by omega)
        obtain ⟨S, hS⟩ : ∃ S, strOfNums (List.replicate L (0 : Int)) = S := ⟨_, rfl⟩
        have HMO : Hid (madeO vs j ++ [((j : Int), S)] = madeO vs (j + 1)) := by show _ = _; rw [madeO_succ, hy, hL, Int.toNat_natCast, hS]
        have hrep : ((List.replicate L (0 : Int)).map (Value.int .u8)).toArray = Array.replicate L (Value.int .u8 0) := by simp
        have hmk : ∀ W : World, (Instr.makeSlice 30 (.int .i64 (L : Int)) (.int .i64 (L : Int))).run Try.prog W = .ok (.slice (some ⟨W.heap.size, 0, none⟩) L L) (W.alloc (.cells (Array.replicate L (Value.int .u8 0)) 5)) := fun W => by have h := make_bytes L (by omega) W; rwa [hrep] at h
        have hcvw : ∀ Y : World, Y.heap = (wr.alloc (.cells (Array.replicate L (Value.int .u8 0)) 5)).heap → (convert 30 9 (.slice (some ⟨wr.heap.size, 0, none⟩) L L)).run Try.prog Y = .ok (.string S) Y := by
          intro Y hY
          rw [← hS]
          refine conv_row _ _ _ _ _ ?_
          have h : Whole .u8 Y wr.heap.size 5 (List.replicate L (0 : Int)) := by
            show Y.heap[wr.heap.size]? = _
            rw [hY, hrep]
            exact heap_alloc_new wr _
          have h2 := h.row
          rwa [List.length_replicate] at h2
        have hcv0 := hcvw (wr.alloc (.cells (Array.replicate L (Value.int .u8 0)) 5)) rfl
        have hcv1 := hcvw (wr.alloc (.cells (Array.replicate L (Value.int .u8 0)) 5)).drew rfl
        have OA1 : Hid (((wr.alloc (.cells (Array.replicate L (Value.int .u8 0)) 5)).alloc (.cells #[.int .i64 (j : Int), .string S] 57)).drew.ownsRow (g + 1) 57 2 (.slice OA j oc) j (obs (madeO vs j))) := own2_keep HO.out (((Below.refl _ _).alloc (Nat.le_refl _) _).alloc (by simp) _).drew
        have RA1 : Hid (OL ((wr.alloc (.cells (Array.replicate L (Value.int .u8 0)) 5)).alloc (.cells #[.int .i64 (j : Int), .string S] 57)).drew ((wr.alloc (.cells (Array.replicate L (Value.int .u8 0)) 5)).alloc (.cells #[.int .i64 (j : Int), .string S] 57)).drew.heap.size (some ⟨wr.heap.size + 1, 0, none⟩) 1 [((j : Int), S)]) := by
          have h : OL ((wr.alloc (.cells (Array.replicate L (Value.int .u8 0)) 5)).alloc (.cells #[.int .i64 (j : Int), .string S] 57)).drew ((wr.alloc (.cells (Array.replicate L (Value.int .u8 0)) 5)).alloc (.cells #[.int .i64 (j : Int), .string S] 57)).drew.heap.size (some ⟨(wr.alloc (.cells (Array.replicate L (Value.int .u8 0)) 5)).heap.size, 0, none⟩) 1 [((j : Int), S)] := built_row (wr.alloc (.cells (Array.replicate L (Value.int .u8 0)) 5)) _ [.int .i64 (j : Int), .string S] 57 (Below.refl _ _).drew
          rwa [show (wr.alloc (.cells (Array.replicate L (Value.int .u8 0)) 5)).heap.size = wr.heap.size + 1 by simp] at h
        have KA1 : Hid (Below w.heap.size w ((wr.alloc (.cells (Array.replicate L (Value.int .u8 0)) 5)).alloc (.cells #[.int .i64 (j : Int), .string S] 57)).drew) := ((HB.out.alloc HB.out.size _).alloc (by have := HB.out.size; simp; omega) _).drew
        have KW1 : Hid (Below (g + 1) wr ((wr.alloc (.cells (Array.replicate L (Value.int .u8 0)) 5)).alloc (.cells #[.int .i64 (j : Int), .string S] 57)).drew) := (((Below.refl _ _).alloc (by omega) _).alloc (by simp; omega) _).drew
        have HSZ1 : Hid (g + 1 ≤ ((wr.alloc (.cells (Array.replicate L (Value.int .u8 0)) 5)).alloc (.cells #[.int .i64 (j : Int), .string S] 57)).drew.heap.size) := by have := KW1.out.size; show _ ≤ _; omega
        have HLT := Lib.hid hlt
        have hj0 : 0 ≤ (j : Int) := by omega
        clear hcell hy hL hS hcvw hlt hrep
        go_upto_region 16 with fail
        go_region_law (first
          | (refine step_append_obs (.tmp 55) (.tmp 66) (g + 1) (.slice OA j oc) j (madeO vs j) 1 [((j : Int), S)] (j + 1) (madeO vs j ++ [((j : Int), S)]) rfl rfl (by omega) ⟨rfl, rfl, (by first | rfl | (simp [eval_put_tmp, size_put]; done) | (simp [eval_put_tmp, size_put]; simp [Act.eval]; done) | (simp [Act.eval]; done))⟩ OA1.out ⟨some ⟨wr.heap.size + 1, 0, none⟩, 1, (by first | rfl | (simp [eval_put_tmp, size_put]; done) | (simp [eval_put_tmp, size_put]; simp [Act.eval]; done) | (simp [Act.eval]; done)), RA1.out⟩ HSZ1.out ?_
             intro A6 c6 w6 hown6 hg6
             rw [HMO.out] at hown6
             have HO6 := Lib.hid hown6
             have HBW6 := below_append2 KW1.out OA1.out hg6 HSZ1.out
             have HB6 := Lib.hid (below_append2 KA1.out (own2_mono OA1.out (show w.heap.size ≤ g + 1 by omega)) hg6 KA1.out.size)
             have hh6 := H4.out.below HBW6 (Nat.lt_succ_self g)
             have HL6 := Lib.hid (H2.out.below HBW6 (by omega))
             have hq13 : w6.cell? ⟨g, 13, none⟩ = some (.slice OA j oc) := hh6.cell 13
             have hqf13 : w6.frozen? ⟨g, 13, none⟩ = false := hh6.frozen 13
             have HH6 := Lib.hid hh6
             clear hown6 hg6 hh6 HBW6))
        all_goals
          go_wp2_with fail
          go_roundw
          case rel =>
            exact ⟨j + 1, c6, A6, by have := HLT.out; omega, by go_num, HH6.out.set 13 (.slice A6 (j + 1) c6), whole_far HL6.out hgn2 13 (.slice A6 (j + 1) c6), own2_low HO6.out ⟨g, 13, none⟩ (Nat.lt_succ_self g) _, Below.setCell HB6.out (p := ⟨g, 13, none⟩) hgl _⟩
          case measure => simp [intOf]; have := HLT.out; omega
      · obtain rfl : j = J := by omega
        have hst : (¬ (j : Int) < (wn : Int)) ∨ ((j : Int) < (wn : Int) ∧ ¬ (j : Int) < 9) := by have := HJ.out; omega
        rcases hst with hjn | ⟨hjn, hj9⟩
        all_goals
          go_wp2_with fail
          obtain ⟨w9, hw9⟩ : ∃ w9, ((((((((((((((wr.setCell ⟨w.heap.size, 0, none⟩ (.int .i64 43)).setCell ⟨w.heap.size, 1, none⟩ (.int .i64 0)).setCell ⟨w.heap.size, 2, none⟩ (.slice none 0 0)).setCell ⟨w.heap.size, 3, none⟩ (.slice none 0 0)).setCell ⟨w.heap.size, 4, none⟩ (.int .i64 0)).setCell ⟨w.heap.size, 5, none⟩ (.int .i64 0)).setCell ⟨w.heap.size, 6, none⟩ (.int .u16 0)).setCell ⟨w.heap.size, 7, none⟩ (.int .u16 0)).setCell ⟨w.heap.size, 8, none⟩ (.int .u16 0)).setCell ⟨w.heap.size, 9, none⟩ (.int .i64 co)).setCell ⟨w.heap.size, 10, none⟩ (.int .i64 129)).setCell ⟨w.heap.size, 11, none⟩ (.bool mo)).setCell ⟨w.heap.size, 12, none⟩ (.int .i64 (nx : Int))).setCell ⟨w.heap.size, 13, none⟩ (.slice OA j oc)) = w9 := ⟨_, rfl⟩
          have hwh := all14 H2.out (.int .i64 43) (.int .i64 0) (.slice none 0 0) (.slice none 0 0) (.int .i64 0) (.int .i64 0) (.int .u16 0) (.int .u16 0) (.int .u16 0) (.int .i64 co) (.int .i64 129) (.bool mo) (.int .i64 (nx : Int)) (.slice OA j oc) rfl
          have hbb := bel14 HB.out (.int .i64 43) (.int .i64 0) (.slice none 0 0) (.slice none 0 0) (.int .i64 0) (.int .i64 0) (.int .u16 0) (.int .u16 0) (.int .u16 0) (.int .i64 co) (.int .i64 129) (.bool mo) (.int .i64 (nx : Int)) (.slice OA j oc)
          have hox := HO.out
          have ho9 : w9.ownsRow (w.heap.size + 1) 57 2 (.slice OA j oc) j (obs (madeO vs j)) := by rw [← hw9]; exact (own2_low (own2_low (own2_low (own2_low (own2_low (own2_low (own2_low (own2_low (own2_low (own2_low (own2_low (own2_low (own2_low (own2_low (own2_mono hox (show w.heap.size + 1 ≤ g + 1 by omega)) ⟨w.heap.size, 0, none⟩ (Nat.lt_succ_self _) _) ⟨w.heap.size, 1, none⟩ (Nat.lt_succ_self _) _) ⟨w.heap.size, 2, none⟩ (Nat.lt_succ_self _) _) ⟨w.heap.size, 3, none⟩ (Nat.lt_succ_self _) _) ⟨w.heap.size, 4, none⟩ (Nat.lt_succ_self _) _) ⟨w.heap.size, 5, none⟩ (Nat.lt_succ_self _) _) ⟨w.heap.size, 6, none⟩ (Nat.lt_succ_self _) _) ⟨w.heap.size, 7, none⟩ (Nat.lt_succ_self _) _) ⟨w.heap.size, 8, none⟩ (Nat.lt_succ_self _) _) ⟨w.heap.size, 9, none⟩ (Nat.lt_succ_self _) _) ⟨w.heap.size, 10, none⟩ (Nat.lt_succ_self _) _) ⟨w.heap.size, 11, none⟩ (Nat.lt_succ_self _) _) ⟨w.heap.size, 12, none⟩ (Nat.lt_succ_self _) _) ⟨w.heap.size, 13, none⟩ (Nat.lt_succ_self _) _)
          rw [hw9] at hwh hbb
          rw [hw9]
          obtain ⟨he0, he1, he2, he3, he4, he5, he6, he7, he8, he9, he10, he11, he12, he13⟩ := cells14 hwh
          have hz9 := hwh.lt
          exact bodyPost_ret (v := .agg #[.int .i64 43, .int .i64 0, .slice none 0 0, .slice none 0 0, .int .i64 0, .int .i64 0, .int .u16 0, .int .u16 0, .int .u16 0, .int .i64 co, .int .i64 129, .bool mo, .int .i64 (nx : Int), .slice OA j oc]) (by simp [results, Try.results6, go_sem, hz9, he0, he1, he2, he3, he4, he5, he6, he7, he8, he9, he10, he11, he12, he13]) rfl ⟨none, 0, none, 0, OA, oc, rfl, BRow.nil, Row.nil _ _ _ _, ol_of_own ho9, hbb⟩

end Go.Proofs.Ytielfekkonflfaa

/- Proved: for every two ints, every bool, every two slices of bytes, busbarlaw8.AduTells returns true, and its arguments read as before. Conditions: none. -/
import Derived.Test.YtoljpdamalcjeaaAwake8
import Derived.Test.YtoljpdamalcjeaaWithin
import Derived.Test.YtoljpdamalcjeaaLentBytes
import Derived.ChangeMaps
namespace Go.Proofs.Ytoljpdamalcjeaa.aduTells
open Go.ChangeShapes Go.WideShapes Go.ChangeAt Go.RowKit
open Go.ChangeMaps (open_string shut_string)
set_option linter.unusedVariables false
set_option linter.unusedSimpArgs false


theorem rframe_yes' (A : Option Addr) (n c : Nat) (zs : List Int) (t u : Int) (w : World) (hr : Row .u8 w w.heap.size A n zs) (h : hFits t (1 + n) u) :
    Calls Try.prog 16 #[.agg #[.int .i64 t, .int .i64 u, .slice A n c]] w fun e w' => ∃ B d, e = .returned (.tuple #[.slice B (7 + n) d, .int .i64 0]) ∧ w'.ownsRow w.heap.size 5 1 (.slice B (7 + n) d) (7 + n) ((headOf t (1 + n) u ++ zs).map (Value.int .u8)) ∧ Below w.heap.size w w' := by
  have e : (1 : Int) + n = n + 1 := by omega
  rw [e] at h ⊢
  exact rframe_yes A n c zs t u w hr h
theorem rframe_no' (A : Option Addr) (n c : Nat) (t u : Int) (w : World) (hn : n ≤ 1000000) (h : ¬ hFits t (1 + n) u) :
    Calls Try.prog 16 #[.agg #[.int .i64 t, .int .i64 u, .slice A n c]] w fun e w' => e = .returned (.tuple #[.slice none 0 0, .int .i64 1]) ∧ Below w.heap.size w w' := by
  have e : (1 : Int) + n = n + 1 := by omega
  rw [e] at h
  exact rframe_no A n c t u w hn h

set_option maxRecDepth 100000 in
theorem walk_long (a0 a1 : Int) (b : Bool) (A : Option Addr) (n c : Nat) (A4 : Option Addr) (k c4 : Nat) (w : World) (h : 300 < n ∨ 40 < k) :
    Calls Try.prog 3 #[.int .i64 a0, .int .i64 a1, .bool b, .slice A n c, .slice A4 k c4] w fun e w' => e = .returned (.bool true) ∧ Below w.heap.size w w' := by
  by_cases h1 : 300 < n
  · have h2 : (300 : Int) < (n : Int) := by omega
    clear h
    go_enter Try.func3, Try.ntmps3
    go_wp2_with (go_at_call 12; refine (awake_any _).mono ?_; rintro e w1 ⟨rfl, hb⟩; have HB := Lib.hid hb; clear hb)
    go_ret
    exact ⟨rfl, HB.out⟩
  · have h2 : ¬ (300 : Int) < (n : Int) := by omega
    have h3 : (40 : Int) < (k : Int) := by omega
    clear h
    go_enter Try.func3, Try.ntmps3
    go_wp2_with (go_at_call 12; refine (awake_any _).mono ?_; rintro e w1 ⟨rfl, hb⟩; have HB := Lib.hid hb; clear hb)
    go_ret
    exact ⟨rfl, HB.out⟩

set_option maxRecDepth 100000 in
set_option maxHeartbeats 4000000 in
theorem walk_raw_yes (t u : Int) (A : Option Addr) (n c : Nat) (zs : List Int) (A4 : Option Addr) (k c4 : Nat) (ys : List Int) (w : World) (hr : Row .u8 w w.heap.size A n zs) (hx : Bytes8 zs) (hr4 : Row .u8 w w.heap.size A4 k ys) (hx4 : Bytes8 ys) (hn : n ≤ 300) (hk : k ≤ 40) (hf : hFits t (1 + n) u) :
    Calls Try.prog 3 #[.int .i64 t, .int .i64 u, .bool false, .slice A n c, .slice A4 k c4] w fun e w' => e = .returned (.bool true) ∧ Below w.heap.size w w' := by
  have hi1 : ¬ (300 : Int) < (n : Int) := by omega
  have hi2 : ¬ (40 : Int) < (k : Int) := by omega
  have HR := Lib.hid (fun W (hb : Below w.heap.size w W) => (hr.below hb).more hb.size)
  have HR4 := Lib.hid (fun W (hb : Below w.heap.size w W) => (hr4.below hb).more hb.size)
  have HX := Lib.hid hx
  have HX4 := Lib.hid hx4
  have HN := Lib.hid hr.1
  have HN4 := Lib.hid hr4.1
  have HF := Lib.hid hf
  obtain ⟨X, hX⟩ : ∃ X, headOf t (1 + n) u ++ zs = X := ⟨_, rfl⟩
  obtain ⟨S, hS⟩ : ∃ S, strOfNums X = S := ⟨_, rfl⟩
  have CB := Lib.hid (fun A c W hr => abytes_yes A n c zs t u W hr hf)
  have CR := Lib.hid (fun A c W hr => rframe_yes' A n c zs t u W hr hf)
  rw [hX] at CB CR
  have HXL : Hid (X.length = 7 + n) := by rw [← hX, List.length_append, HN.out]; rfl
  have HXE := Lib.hid hX
  have HS := Lib.hid hS
  clear hr hx hr4 hx4 hf hX hS
  go_enter Try.func3, Try.ntmps3
  go_wp2_with (first
    | (go_at_call 12; refine (awake_any _).mono ?_; rintro e w1 ⟨rfl, hb⟩; have HB1 := Lib.hid hb; clear hb)
    | (go_at_call 14
       refine (lent_all A n c zs _ (HR.out _ HB1.out) (by omega)).mono ?_
       rintro e w3 ⟨rfl, hr3, hm3, hw3, hb3, hz3⟩
       have HR3 := Lib.hid hr3
       have HM3 := Lib.hid hm3
       have HW3 := Lib.hid hw3
       have HB3 := Lib.hid (HB1.out.trans (hb3.mono HB1.out.size))
       clear hr3 hm3 hw3 hb3)
    | (go_at_call 15
       refine (CB.out _ _ _ HM3.out).mono ?_
       rintro e w4 ⟨g4, rfl, hg4, hw4, hb4⟩
       have HW4 := Lib.hid hw4
       have HB4 := Lib.hid hb4
       clear hw4 hb4)
    | (go_at_call 16
       refine (CR.out _ _ _ ((HR3.out.below HB4.out).more HB4.out.size)).mono ?_
       rintro e w5 ⟨B5, d5, rfl, ho5, hb5⟩
       have HB5 := Lib.hid (HB4.out.trans (hb5.mono HB4.out.size))
       have HW5 := Lib.hid (HW4.out.below hb5 HW4.out.lt)
       have hrow5 := HW5.out.row
       rw [HXL.out] at hrow5
       have HR5 := Lib.hid hrow5
       have hc1 := conv_row _ (7 + n) (7 + n) X _ hrow5
       have hc2 := conv_row _ (7 + n) d5 X _ (own_row ho5).ints
       rw [HS.out] at hc1 hc2
       have HO5 := Lib.hid (own_none w5 w.heap.size 5)
       clear ho5 hb5 hrow5)
    | (go_at_call 17
       refine (stays_kept A n c w1.heap.size zs w3 _ HR3.out HW3.out (by omega) HB5.out).mono ?_
       rintro e w6 ⟨rfl, d6, rfl⟩
       have HB6 := Lib.hid (below_drewN (HB3.out.trans (HB5.out.mono HB3.out.size)) d6)
       have HR6 : Hid (Row .u8 (w5.drewN d6) (w5.drewN d6).heap.size _ _ X) := HR5
       have HO6 : Hid ((w5.drewN d6).ownsRow w.heap.size 5 1 (.slice none 0 0) 0 []) := HO5
       obtain ⟨w6, hw6⟩ : ∃ w6, w5.drewN d6 = w6 := ⟨_, rfl⟩
       rw [hw6] at HB6 HR6 HO6
       rw [hw6]
       clear hw6)
    | (at_builtin
       refine wpList_append_row _ (o := ⟨some 75, _, _, _, _, _⟩) ?_ (.const (.slice none 0 0)) (.tmp 74) 22 ?_ w.heap.size 5 (.int .u8 0) 1 Try.underlying22 info5 rfl (.slice none 0 0) 0 [] ?_ HO6.out _ (some ⟨g4, 0, none⟩) (7 + n) (7 + n) _ ?_ HR6.out.v (one_cells _ _) (by omega) (by omega) HB6.out.size ?_
       · rfl
       · rfl
       · rfl
       · rfl
       intro v7 w7 hown7 hg7 hat7
       rw [Nat.zero_add, List.nil_append] at hown7
       obtain ⟨B7, c7, rfl⟩ := own_slice hown7
       have HO7 := Lib.hid hown7
       have HB7 := Lib.hid (below_append HB6.out HO6.out hg7 HB6.out.size)
       clear hown7 hg7 hat7)
    | (at_builtin
       refine wpList_append_row _ (o := ⟨some 77, _, _, _, _, _⟩) ?_ (.tmp 75) (.tmp 76) 22 ?_ w.heap.size 5 (.int .u8 0) 1 Try.underlying22 info5 rfl (.slice B7 (7 + n) c7) (7 + n) _ ?_ HO7.out _ A4 k c4 _ ?_ (HR4.out _ HB7.out).v (one_cells _ _) (by omega) (by omega) HB7.out.size ?_
       · rfl
       · rfl
       · rfl
       · rfl
       intro v8 w8 hown8 hg8 hat8
       rw [← List.map_append] at hown8
       obtain ⟨m8, hm8⟩ : ∃ m8, 7 + n + k = m8 := ⟨_, rfl⟩
       rw [hm8] at hown8
       obtain ⟨B8, c8, rfl⟩ := own_slice hown8
       have HB8 := Lib.hid (below_append HB7.out HO7.out hg8 HB7.out.size)
       have hrow8 := (own_row hown8).ints
       have hcap8 : m8 ≤ c8 := by
         rcases hown8.2 with ⟨h, h0⟩ | ⟨_, cap, _, h, _, _, h7, _⟩
         · omega
         · injection h with _ _ h3; omega
       rw [← HXE.out] at hrow8
       have C8 := Lib.hid (acut_frame t u zs ys n m8 c8 B8 w8 HN.out HX.out HX4.out HF.out (by rw [HN4.out]; exact hm8) (by omega) hcap8 hrow8)
       clear hown8 hg8 hat8 hrow8 hm8)
    | (go_at_call 18
       refine C8.out.mono ?_
       rintro e w9 ⟨g9, rfl, hg9, hw9, hb9⟩
       have hb10 : Below w8.heap.size w8 (w9.alloc (.cells #[.int .i64 t, .int .i64 u, .slice (some ⟨g9, 0, none⟩) n n] 30)) := hb9.alloc hb9.size _
       have HB10 := Lib.hid (HB8.out.trans (hb10.mono HB8.out.size))
       have hw10 := hw9.below ((Below.refl w9.heap.size w9).alloc (Nat.le_refl _) (.cells #[.int .i64 t, .int .i64 u, .slice (some ⟨g9, 0, none⟩) n n] 30)) hw9.lt
       have hr10 := hw10.row
       rw [HN.out] at hr10
       have hc3 := conv_row _ n n zs _ hr10
       have hc4 := conv_row A n c zs _ (HR.out _ HB10.out)
       clear hw9 hb9 hb10 hw10 hr10 hg9))
  go_ret
  exact ⟨rfl, HB10.out⟩

set_option maxRecDepth 100000 in
set_option maxHeartbeats 4000000 in
theorem walk_raw_no (t u : Int) (A : Option Addr) (n c : Nat) (zs : List Int) (A4 : Option Addr) (k c4 : Nat) (ys : List Int) (w : World) (hr : Row .u8 w w.heap.size A n zs) (hx : Bytes8 zs) (hr4 : Row .u8 w w.heap.size A4 k ys) (hx4 : Bytes8 ys) (hn : n ≤ 300) (hk : k ≤ 40) (hf : ¬ hFits t (1 + n) u) :
    Calls Try.prog 3 #[.int .i64 t, .int .i64 u, .bool false, .slice A n c, .slice A4 k c4] w fun e w' => e = .returned (.bool true) ∧ Below w.heap.size w w' := by
  have hi1 : ¬ (300 : Int) < (n : Int) := by omega
  have hi2 : ¬ (40 : Int) < (k : Int) := by omega
  have HR := Lib.hid (fun W (hb : Below w.heap.size w W) => (hr.below hb).more hb.size)
  have HR4 := Lib.hid (fun W (hb : Below w.heap.size w W) => (hr4.below hb).more hb.size)
  have HX := Lib.hid hx
  have HX4 := Lib.hid hx4
  have HN := Lib.hid hr.1
  have HN4 := Lib.hid hr4.1
  have HF := Lib.hid hf
  have CB := Lib.hid (fun A c W => abytes_no A n c t u W (by omega) hf)
  have CR := Lib.hid (fun A c W => rframe_no' A n c t u W (by omega) hf)
  have hcN : ∀ W : World, (convert 22 9 (.slice none 0 0)).run Try.prog W = .ok (.string (strOfNums [])) W := fun W => conv_row none 0 0 [] W (Row.nil _ _ _ _)
  clear hr hx hr4 hx4 hf
  go_enter Try.func3, Try.ntmps3
  go_wp2_with (first
    | (go_at_call 12; refine (awake_any _).mono ?_; rintro e w1 ⟨rfl, hb⟩; have HB1 := Lib.hid hb; clear hb)
    | (go_at_call 14
       refine (lent_all A n c zs _ (HR.out _ HB1.out) (by omega)).mono ?_
       rintro e w3 ⟨rfl, hr3, hm3, hw3, hb3, hz3⟩
       have HR3 := Lib.hid hr3
       have HM3 := Lib.hid hm3
       have HW3 := Lib.hid hw3
       have HB3 := Lib.hid (HB1.out.trans (hb3.mono HB1.out.size))
       clear hr3 hm3 hw3 hb3)
    | (go_at_call 15
       refine (CB.out _ _ _).mono ?_
       rintro e w4 ⟨rfl, hb4⟩
       have HB4 := Lib.hid hb4
       clear hb4)
    | (go_at_call 16
       refine (CR.out _ _ _).mono ?_
       rintro e w5 ⟨rfl, hb5⟩
       have HB5 := Lib.hid (HB4.out.trans (hb5.mono HB4.out.size))
       clear hb5)
    | (go_at_call 17
       refine (stays_kept A n c w1.heap.size zs w3 _ HR3.out HW3.out (by omega) HB5.out).mono ?_
       rintro e w6 ⟨rfl, d6, rfl⟩))
  go_ret
  exact ⟨rfl, below_drewN (HB3.out.trans (HB5.out.mono HB3.out.size)) _⟩

set_option maxRecDepth 100000 in
set_option maxHeartbeats 4000000 in
theorem walk_near_yes (a0 a1 : Int) (t u : Int) (A : Option Addr) (n c : Nat) (zs : List Int) (A4 : Option Addr) (k c4 : Nat) (ys : List Int) (w : World) (hr : Row .u8 w w.heap.size A n zs) (hx : Bytes8 zs) (hr4 : Row .u8 w w.heap.size A4 k ys) (hx4 : Bytes8 ys) (hn : n ≤ 300) (hk : k ≤ 40) (hf : hFits t (1 + n) u) (ht : a0 % 65536 = t) (hu : a1 % 256 = u) (p0 : -9223372036854775808 ≤ a0) (p1 : a0 ≤ 9223372036854775807) (q0 : -9223372036854775808 ≤ a1) (q1 : a1 ≤ 9223372036854775807) :
    Calls Try.prog 3 #[.int .i64 a0, .int .i64 a1, .bool true, .slice A n c, .slice A4 k c4] w fun e w' => e = .returned (.bool true) ∧ Below w.heap.size w w' := by
  have hi1 : ¬ (300 : Int) < (n : Int) := by omega
  have hi2 : ¬ (40 : Int) < (k : Int) := by omega
  have CT := Lib.hid (fun W => within_any a0 65536 W p0 p1 (by omega) (by omega))
  rw [ht] at CT
  have CU := Lib.hid (fun W => within_any a1 256 W q0 q1 (by omega) (by omega))
  rw [hu] at CU
  have HR := Lib.hid (fun W (hb : Below w.heap.size w W) => (hr.below hb).more hb.size)
  have HR4 := Lib.hid (fun W (hb : Below w.heap.size w W) => (hr4.below hb).more hb.size)
  have HX := Lib.hid hx
  have HX4 := Lib.hid hx4
  have HN := Lib.hid hr.1
  have HN4 := Lib.hid hr4.1
  have HF := Lib.hid hf
  obtain ⟨X, hX⟩ : ∃ X, headOf t (1 + n) u ++ zs = X := ⟨_, rfl⟩
  obtain ⟨S, hS⟩ : ∃ S, strOfNums X = S := ⟨_, rfl⟩
  have CB := Lib.hid (fun A c W hr => abytes_yes A n c zs t u W hr hf)
  have CR := Lib.hid (fun A c W hr => rframe_yes' A n c zs t u W hr hf)
  rw [hX] at CB CR
  have HXL : Hid (X.length = 7 + n) := by rw [← hX, List.length_append, HN.out]; rfl
  have HXE := Lib.hid hX
  have HS := Lib.hid hS
  clear hr hx hr4 hx4 hf ht hu p0 p1 q0 q1 hX hS
  go_enter Try.func3, Try.ntmps3
  go_wp2_with (first
    | (go_at_call 12; refine (awake_any _).mono ?_; rintro e w1 ⟨rfl, hb⟩; have HB1 := Lib.hid hb; clear hb)
    | (go_at_call 13; (with_reducible refine (CT.out _).mono ?_); rintro e w' ⟨rfl, rfl⟩)
    | (go_at_call 13; (with_reducible refine (CU.out _).mono ?_); rintro e w' ⟨rfl, rfl⟩)
    | (go_at_call 14
       refine (lent_all A n c zs _ (HR.out _ HB1.out) (by omega)).mono ?_
       rintro e w3 ⟨rfl, hr3, hm3, hw3, hb3, hz3⟩
       have HR3 := Lib.hid hr3
       have HM3 := Lib.hid hm3
       have HW3 := Lib.hid hw3
       have HB3 := Lib.hid (HB1.out.trans (hb3.mono HB1.out.size))
       clear hr3 hm3 hw3 hb3)
    | (go_at_call 15
       refine (CB.out _ _ _ HM3.out).mono ?_
       rintro e w4 ⟨g4, rfl, hg4, hw4, hb4⟩
       have HW4 := Lib.hid hw4
       have HB4 := Lib.hid hb4
       clear hw4 hb4)
    | (go_at_call 16
       refine (CR.out _ _ _ ((HR3.out.below HB4.out).more HB4.out.size)).mono ?_
       rintro e w5 ⟨B5, d5, rfl, ho5, hb5⟩
       have HB5 := Lib.hid (HB4.out.trans (hb5.mono HB4.out.size))
       have HW5 := Lib.hid (HW4.out.below hb5 HW4.out.lt)
       have hrow5 := HW5.out.row
       rw [HXL.out] at hrow5
       have HR5 := Lib.hid hrow5
       have hc1 := conv_row _ (7 + n) (7 + n) X _ hrow5
       have hc2 := conv_row _ (7 + n) d5 X _ (own_row ho5).ints
       rw [HS.out] at hc1 hc2
       have HO5 := Lib.hid (own_none w5 w.heap.size 5)
       clear ho5 hb5 hrow5)
    | (go_at_call 17
       refine (stays_kept A n c w1.heap.size zs w3 _ HR3.out HW3.out (by omega) HB5.out).mono ?_
       rintro e w6 ⟨rfl, d6, rfl⟩
       have HB6 := Lib.hid (below_drewN (HB3.out.trans (HB5.out.mono HB3.out.size)) d6)
       have HR6 : Hid (Row .u8 (w5.drewN d6) (w5.drewN d6).heap.size _ _ X) := HR5
       have HO6 : Hid ((w5.drewN d6).ownsRow w.heap.size 5 1 (.slice none 0 0) 0 []) := HO5
       obtain ⟨w6, hw6⟩ : ∃ w6, w5.drewN d6 = w6 := ⟨_, rfl⟩
       rw [hw6] at HB6 HR6 HO6
       rw [hw6]
       clear hw6)
    | (at_builtin
       refine wpList_append_row _ (o := ⟨some 75, _, _, _, _, _⟩) ?_ (.const (.slice none 0 0)) (.tmp 74) 22 ?_ w.heap.size 5 (.int .u8 0) 1 Try.underlying22 info5 rfl (.slice none 0 0) 0 [] ?_ HO6.out _ (some ⟨g4, 0, none⟩) (7 + n) (7 + n) _ ?_ HR6.out.v (one_cells _ _) (by omega) (by omega) HB6.out.size ?_
       · rfl
       · rfl
       · rfl
       · rfl
       intro v7 w7 hown7 hg7 hat7
       rw [Nat.zero_add, List.nil_append] at hown7
       obtain ⟨B7, c7, rfl⟩ := own_slice hown7
       have HO7 := Lib.hid hown7
       have HB7 := Lib.hid (below_append HB6.out HO6.out hg7 HB6.out.size)
       clear hown7 hg7 hat7)
    | (at_builtin
       refine wpList_append_row _ (o := ⟨some 77, _, _, _, _, _⟩) ?_ (.tmp 75) (.tmp 76) 22 ?_ w.heap.size 5 (.int .u8 0) 1 Try.underlying22 info5 rfl (.slice B7 (7 + n) c7) (7 + n) _ ?_ HO7.out _ A4 k c4 _ ?_ (HR4.out _ HB7.out).v (one_cells _ _) (by omega) (by omega) HB7.out.size ?_
       · rfl
       · rfl
       · rfl
       · rfl
       intro v8 w8 hown8 hg8 hat8
       rw [← List.map_append] at hown8
       obtain ⟨m8, hm8⟩ : ∃ m8, 7 + n + k = m8 := ⟨_, rfl⟩
       rw [hm8] at hown8
       obtain ⟨B8, c8, rfl⟩ := own_slice hown8
       have HB8 := Lib.hid (below_append HB7.out HO7.out hg8 HB7.out.size)
       have hrow8 := (own_row hown8).ints
       have hcap8 : m8 ≤ c8 := by
         rcases hown8.2 with ⟨h, h0⟩ | ⟨_, cap, _, h, _, _, h7, _⟩
         · omega
         · injection h with _ _ h3; omega
       rw [← HXE.out] at hrow8
       have C8 := Lib.hid (acut_frame t u zs ys n m8 c8 B8 w8 HN.out HX.out HX4.out HF.out (by rw [HN4.out]; exact hm8) (by omega) hcap8 hrow8)
       clear hown8 hg8 hat8 hrow8 hm8)
    | (go_at_call 18
       refine C8.out.mono ?_
       rintro e w9 ⟨g9, rfl, hg9, hw9, hb9⟩
       have hb10 : Below w8.heap.size w8 (w9.alloc (.cells #[.int .i64 t, .int .i64 u, .slice (some ⟨g9, 0, none⟩) n n] 30)) := hb9.alloc hb9.size _
       have HB10 := Lib.hid (HB8.out.trans (hb10.mono HB8.out.size))
       have hw10 := hw9.below ((Below.refl w9.heap.size w9).alloc (Nat.le_refl _) (.cells #[.int .i64 t, .int .i64 u, .slice (some ⟨g9, 0, none⟩) n n] 30)) hw9.lt
       have hr10 := hw10.row
       rw [HN.out] at hr10
       have hc3 := conv_row _ n n zs _ hr10
       have hc4 := conv_row A n c zs _ (HR.out _ HB10.out)
       clear hw9 hb9 hb10 hw10 hr10 hg9))
  go_ret
  exact ⟨rfl, HB10.out⟩

set_option maxRecDepth 100000 in
set_option maxHeartbeats 4000000 in
theorem walk_near_no (a0 a1 : Int) (t u : Int) (A : Option Addr) (n c : Nat) (zs : List Int) (A4 : Option Addr) (k c4 : Nat) (ys : List Int) (w : World) (hr : Row .u8 w w.heap.size A n zs) (hx : Bytes8 zs) (hr4 : Row .u8 w w.heap.size A4 k ys) (hx4 : Bytes8 ys) (hn : n ≤ 300) (hk : k ≤ 40) (hf : ¬ hFits t (1 + n) u) (ht : a0 % 65536 = t) (hu : a1 % 256 = u) (p0 : -9223372036854775808 ≤ a0) (p1 : a0 ≤ 9223372036854775807) (q0 : -9223372036854775808 ≤ a1) (q1 : a1 ≤ 9223372036854775807) :
    Calls Try.prog 3 #[.int .i64 a0, .int .i64 a1, .bool true, .slice A n c, .slice A4 k c4] w fun e w' => e = .returned (.bool true) ∧ Below w.heap.size w w' := by
  have hi1 : ¬ (300 : Int) < (n : Int) := by omega
  have hi2 : ¬ (40 : Int) < (k : Int) := by omega
  have CT := Lib.hid (fun W => within_any a0 65536 W p0 p1 (by omega) (by omega))
  rw [ht] at CT
  have CU := Lib.hid (fun W => within_any a1 256 W q0 q1 (by omega) (by omega))
  rw [hu] at CU
  have HR := Lib.hid (fun W (hb : Below w.heap.size w W) => (hr.below hb).more hb.size)
  have HR4 := Lib.hid (fun W (hb : Below w.heap.size w W) => (hr4.below hb).more hb.size)
  have HX := Lib.hid hx
  have HX4 := Lib.hid hx4
  have HN := Lib.hid hr.1
  have HN4 := Lib.hid hr4.1
  have HF := Lib.hid hf
  have CB := Lib.hid (fun A c W => abytes_no A n c t u W (by omega) hf)
  have CR := Lib.hid (fun A c W => rframe_no' A n c t u W (by omega) hf)
  have hcN : ∀ W : World, (convert 22 9 (.slice none 0 0)).run Try.prog W = .ok (.string (strOfNums [])) W := fun W => conv_row none 0 0 [] W (Row.nil _ _ _ _)
  clear hr hx hr4 hx4 hf ht hu p0 p1 q0 q1
  go_enter Try.func3, Try.ntmps3
  go_wp2_with (first
    | (go_at_call 12; refine (awake_any _).mono ?_; rintro e w1 ⟨rfl, hb⟩; have HB1 := Lib.hid hb; clear hb)
    | (go_at_call 13; (with_reducible refine (CT.out _).mono ?_); rintro e w' ⟨rfl, rfl⟩)
    | (go_at_call 13; (with_reducible refine (CU.out _).mono ?_); rintro e w' ⟨rfl, rfl⟩)
    | (go_at_call 14
       refine (lent_all A n c zs _ (HR.out _ HB1.out) (by omega)).mono ?_
       rintro e w3 ⟨rfl, hr3, hm3, hw3, hb3, hz3⟩
       have HR3 := Lib.hid hr3
       have HM3 := Lib.hid hm3
       have HW3 := Lib.hid hw3
       have HB3 := Lib.hid (HB1.out.trans (hb3.mono HB1.out.size))
       clear hr3 hm3 hw3 hb3)
    | (go_at_call 15
       refine (CB.out _ _ _).mono ?_
       rintro e w4 ⟨rfl, hb4⟩
       have HB4 := Lib.hid hb4
       clear hb4)
    | (go_at_call 16
       refine (CR.out _ _ _).mono ?_
       rintro e w5 ⟨rfl, hb5⟩
       have HB5 := Lib.hid (HB4.out.trans (hb5.mono HB4.out.size))
       clear hb5)
    | (go_at_call 17
       refine (stays_kept A n c w1.heap.size zs w3 _ HR3.out HW3.out (by omega) HB5.out).mono ?_
       rintro e w6 ⟨rfl, d6, rfl⟩))
  go_ret
  exact ⟨rfl, below_drewN (HB3.out.trans (HB5.out.mono HB3.out.size)) _⟩

theorem walk (a0 : Int) (a1 : Int) (a2 : Bool) (a3 : Option Addr) (len3 cap3 : Nat) (z3 : List Int) (a4 : Option Addr) (len4 cap4 : Nat) (z4 : List Int) (w : World) (w0 : (Lit.int .i64 a0).wf = true) (w1 : (Lit.int .i64 a1).wf = true) (w3 : IsRow .u8 w a3 len3 cap3 z3) (w4 : IsRow .u8 w a4 len4 cap4 z4) :
    Calls Try.prog 3 #[.int .i64 a0, .int .i64 a1, .bool a2, .slice a3 len3 cap3, .slice a4 len4 cap4] w fun e w' => e = .returned (.bool true) ∧ Below w.heap.size w w' := by
  have h0 := bounds_i64 w0
  have h1 := bounds_i64 w1
  by_cases h : 300 < len3 ∨ 40 < len4
  · exact walk_long a0 a1 a2 a3 len3 cap3 a4 len4 cap4 w h
  · cases a2
    · by_cases hf : hFits a0 (1 + len3) a1
      · exact walk_raw_yes a0 a1 a3 len3 cap3 _ a4 len4 cap4 _ w w3.row w3.bytes w4.row w4.bytes (by omega) (by omega) hf
      · exact walk_raw_no a0 a1 a3 len3 cap3 _ a4 len4 cap4 _ w w3.row w3.bytes w4.row w4.bytes (by omega) (by omega) hf
    · by_cases hf : hFits (a0 % 65536) (1 + len3) (a1 % 256)
      · exact walk_near_yes a0 a1 _ _ a3 len3 cap3 _ a4 len4 cap4 _ w w3.row w3.bytes w4.row w4.bytes (by omega) (by omega) hf rfl rfl h0.1 (by omega) h1.1 (by omega)
      · exact walk_near_no a0 a1 _ _ a3 len3 cap3 _ a4 len4 cap4 _ w w3.row w3.bytes w4.row w4.bytes (by omega) (by omega) hf rfl rfl h0.1 (by omega) h1.1 (by omega)

set_option maxRecDepth 100000 in
theorem lifted (os : Os) (started : os.Started) (H : Type) (enc : TypeId × Value → H) :
    ReturnsInHanded {} Try.checked os 3 .any (Rows.aduTellsSpec.pre6 enc Try.prog Try.f3 Rows.aduTellsRow.domain false) (Rows.aduTellsSpec.post enc Try.prog Try.f3 false true false false) := by
  refine returnsInHanded_of_change (C := Try.checked) own started (by kernel_rfl) Try.func3
    (ChangeSpec.witness6 (enc := enc) (C := Try.checked) false ⟨#[], #[.int .i64 0, .int .i64 0, .bool false, .slice none 0 0, .slice none 0 0], []⟩ 8 (by kernel_rfl) (by kernel_rfl) (by kernel_rfl) (by kernel_rfl)) ?_
  intro W base args ds gs before hval0 hW hcnd _
  have hval : ∀ (j : Nat) t v, Try.f3.params[j]? = some t → args[j]? = some v → Value.okWide Try.prog W .any base t v := hval0
  have hW' := hW
  obtain ⟨p, q, hA0, hV, rfl, hfz, hnd⟩ := hW
  have hA : DataW.TrodAll enc Try.prog W 0 (fun _ => true) true Try.f3.params.toList args.toList ds p := hA0
  rw [Try.params3] at hA hval
  obtain ⟨v0, vs0, d0, ds0, p0, q0, hargs, rfl, rfl, h0, r0⟩ := trodAll_cons hA
  obtain ⟨v1, vs1, d1, ds1, p1, q1, rfl, rfl, rfl, h1, r1⟩ := trodAll_cons r0
  obtain ⟨v2, vs2, d2, ds2, p2, q2, rfl, rfl, rfl, h2, r2⟩ := trodAll_cons r1
  obtain ⟨v3, vs3, d3, ds3, p3, q3, rfl, rfl, rfl, h3, r3⟩ := trodAll_cons r2
  obtain ⟨v4, vs4, d4, ds4, p4, q4, rfl, rfl, rfl, h4, r4⟩ := trodAll_cons r3
  obtain ⟨rfl, rfl, rfl⟩ := trodAll_nil r4
  obtain rfl : args = #[v0, v1, v2, v3, v4] := by cases args; simp_all
  obtain ⟨rfl, rfl⟩ := trodVars_none hV
  obtain ⟨a0, rfl, rfl, rfl, w0⟩ := open_int Try.underlying3 (hval 0 3 v0 rfl rfl) h0
  obtain ⟨a1, rfl, rfl, rfl, w1⟩ := open_int Try.underlying3 (hval 1 3 v1 rfl rfl) h1
  obtain ⟨a2, rfl, rfl, rfl⟩ := open_bool Try.underlying4 (hval 2 4 v2 rfl rfl) h2
  obtain ⟨a3, len3, cap3, rfl⟩ := okWide_slice Try.underlying22 (hval 3 22 v3 rfl rfl)
  have k3 := h3
  have lt3 : ∀ x ∈ p3, x.block < W.heap.size := by obtain ⟨m, hm⟩ := k3; exact DataW.trod_lt m _ _ _ hm
  obtain ⟨z3, w3⟩ : ∃ zs, IsRow .u8 W a3 len3 cap3 zs := by
    obtain ⟨fuel, hf⟩ := h3
    rcases open_ints Try.underlying22 Try.underlying5 (by kernel_rfl) hf with ⟨hcs, _⟩ | ⟨x, l, c, zs, hcs, _, hl, hm, hz, _, hcell, hwz⟩
    · simp [Value.cells] at hcs
      obtain ⟨rfl, rfl, rfl⟩ := hcs
      exact ⟨[], .inl ⟨rfl, rfl, rfl, rfl⟩⟩
    · simp [Value.cells] at hcs
      obtain ⟨rfl, rfl, rfl⟩ := hcs
      exact ⟨zs, .inr ⟨_, rfl, hl, hm, by simpa using hz, hcell, hwz⟩⟩
  obtain ⟨a4, len4, cap4, rfl⟩ := okWide_slice Try.underlying22 (hval 4 22 v4 rfl rfl)
  have k4 := h4
  have lt4 : ∀ x ∈ p4, x.block < W.heap.size := by obtain ⟨m, hm⟩ := k4; exact DataW.trod_lt m _ _ _ hm
  obtain ⟨z4, w4⟩ : ∃ zs, IsRow .u8 W a4 len4 cap4 zs := by
    obtain ⟨fuel, hf⟩ := h4
    rcases open_ints Try.underlying22 Try.underlying5 (by kernel_rfl) hf with ⟨hcs, _⟩ | ⟨x, l, c, zs, hcs, _, hl, hm, hz, _, hcell, hwz⟩
    · simp [Value.cells] at hcs
      obtain ⟨rfl, rfl, rfl⟩ := hcs
      exact ⟨[], .inl ⟨rfl, rfl, rfl, rfl⟩⟩
    · simp [Value.cells] at hcs
      obtain ⟨rfl, rfl, rfl⟩ := hcs
      exact ⟨zs, .inr ⟨_, rfl, hl, hm, by simpa using hz, hcell, hwz⟩⟩
  clear hA0 hval0
  refine (walk a0 a1 a2 a3 len3 cap3 z3 a4 len4 cap4 z4 W w0 w1 w3 w4).mono fun e W' ⟨he, bel⟩ => ?_
  subst he
  exact ⟨_, rfl, _, _, _, [], _, [], hW', trodAll_mk1 (shut_bool Try.underlying4 _), (trodAll_cons_mk (shut_int Try.underlying3 w0) (trodAll_cons_mk (shut_int Try.underlying3 w1) (trodAll_cons_mk (shut_bool Try.underlying4 _) (trodAll_cons_mk (Below.trod laidOut (by kernel_rfl) (of_decide_eq_true (by kernel_rfl)) k3 bel lt3) (trodAll_cons_mk (Below.trod laidOut (by kernel_rfl) (of_decide_eq_true (by kernel_rfl)) k4 bel lt4) trodAll_mk0))))), rfl, bel.frame _, fun h => by cases h⟩

theorem over : Rows.aduTellsRow.holds Try.pinned (OpenSpec.ofChange Rows.aduTellsSpec) :=
  OpenClaim.holds_of_wide 3 Try.f3 rfl rfl rfl rfl rfl rfl rfl ⟨rfl, rfl, rfl, rfl, rfl⟩ rfl rfl rfl rfl rfl (by kernel_rfl) Try.func3 (by kernel_rfl)
    (of_decide_eq_true (by kernel_rfl)) (by unfold Func.isWrapper; first | (rw [if_pos (by decide +kernel)]; kernel_rfl) | (rw [if_neg (by decide +kernel)]; exact ⟨rfl, rfl⟩))
    (fun os started H enc _ => lifted os started H enc)

theorem proved : Rows.AduTellsSaid := over
#print axioms proved
end Go.Proofs.Ytoljpdamalcjeaa.aduTells

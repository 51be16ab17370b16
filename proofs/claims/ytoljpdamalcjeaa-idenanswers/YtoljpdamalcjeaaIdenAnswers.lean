/- Proved: for every slice of ints, every two ints and every bool, busbarlaw7.IdenAnswers returns true, and its argument reads as before. Conditions: none. -/
import Derived.Test.YtoljpdamalcjeaaIans
import Derived.Test.YtoljpdamalcjeaaAwake7
import Derived.Test.YtoljpdamalcjeaaLentObjs
import Derived.Test.YtoljpdamalcjeaaRSame2
import Derived.Test.YtoljpdamalcjeaaPBytesD2
import Derived.Test.YtoljpdamalcjeaaLobj2
import Derived.Test.YtoljpdamalcjeaaWithin
import Derived.ChangeMaps
namespace Go.Proofs.Ytoljpdamalcjeaa.idenAnswers
open Go.ChangeShapes Go.WideShapes Go.ChangeAt Go.RowKit
open Go.ChangeMaps (open_string shut_string)
set_option linter.unusedVariables false
set_option linter.unusedSimpArgs false


set_option maxRecDepth 100000 in
set_option maxHeartbeats 2500000 in
theorem walk_raw (A : Option Addr) (n c : Nat) (ks : List Int) (co ob : Int) (w : World) (hr : Row .i64 w w.heap.size A n ks) (hw : ∀ k ∈ ks, -9223372036854775808 ≤ k ∧ k ≤ 9223372036854775807) (hn : n ≤ 9223372036854775807) :
    Calls Try.prog 11 #[.slice A n c, .int .i64 co, .int .i64 ob, .bool false] w fun e w' => e = .returned (.bool true) ∧ Below w.heap.size w w' := by
  have HO := Lib.hid (fun W hW => lobjects_any A n c ks W hW hw hn)
  have HR := Lib.hid hr
  clear hr hw
  go_enter Try.func11, Try.ntmps11
  go_wp2_with (first
    | (go_at_call 42; refine (awake7_any _).mono ?_; rintro e w1 ⟨rfl, hb⟩; have HB1 := Lib.hid hb; clear hb)
    | (go_at_call 43; refine (HO.out _ ((HR.out.below HB1.out).more HB1.out.size)).mono ?_; rintro e w2 ⟨B, m, d, os, rfl, hg, hown, hb⟩; have HG := Lib.hid hg; have HOW := Lib.hid hown; have HB2 := Lib.hid (HB1.out.trans (hb.mono HB1.out.size)); clear hb hg hown))
  have hm : os.length = m := by have := HOW.out.1; rw [obs_length] at this; omega
  subst hm
  have hcap := own2_cap HOW.out
  have h43 := HG.out.l43
  have HL := Lib.hid (ol_of_own HOW.out)
  obtain ⟨fn, cd, le, nx, mo, E, p, ps, hp, hE, hA, hRf⟩ := ans_both os HG.out co ob
  have HA := Lib.hid hA
  have HF := Lib.hid hRf
  clear hA hRf
  rcases hE with hE | ⟨rfl, rfl, hcd, hle, hnx, hfit⟩
  · have hE0 : (E != 0) = true := by simpa using hE
    go_wp2_with (first
      | (go_at_call 27
         refine (lentobjs_any B os.length d os _ HL.out (by omega)).mono ?_
         rintro e w3 ⟨rfl, hw3, hb3⟩
         have HW3 := Lib.hid hw3
         have HM3 := Lib.hid (ol_of_whole rfl hw3)
         have HL3 := Lib.hid (HL.out.below hb3)
         have HB3 := Lib.hid (HB2.out.trans (hb3.mono HB2.out.size))
         clear hw3 hb3)
      | (go_at_call 44
         refine (HA.out _ _ _ _ HM3.out (by omega)).mono ?_
         rintro e w4 ⟨B4, d4, rfl, ho4, hb4⟩
         have hk4 : Below w3.heap.size w3 (w4.alloc (.cells #[.int .i64 fn, .int .i64 0, .slice none 0 0, .slice none 0 0, .int .i64 0, .int .i64 0, .int .u16 0, .int .u16 0, .int .u16 0, .int .i64 cd, .int .i64 le, .bool mo, .int .i64 nx, .slice B4 p d4] 53)) := hb4.alloc hb4.size _
         have HK4 := Lib.hid hk4
         have HL4 := Lib.hid (HL3.out.below hk4)
         have HO4 := Lib.hid (own2_keep ho4 ((Below.refl w4.heap.size w4).alloc (Nat.le_refl _) (.cells #[.int .i64 fn, .int .i64 0, .slice none 0 0, .slice none 0 0, .int .i64 0, .int .i64 0, .int .u16 0, .int .u16 0, .int .u16 0, .int .i64 cd, .int .i64 le, .bool mo, .int .i64 nx, .slice B4 p d4] 53)))
         clear ho4 hb4 hk4)
      | (go_at_call 45
         refine (HF.out _ _ _ _ HL4.out hcap).mono ?_
         rintro e w5 ⟨B5, d5, rfl, ho5, hb5⟩
         have hk5 : Below (w4.heap.size + 1) (w4.alloc (.cells #[.int .i64 fn, .int .i64 0, .slice none 0 0, .slice none 0 0, .int .i64 0, .int .i64 0, .int .u16 0, .int .u16 0, .int .u16 0, .int .i64 cd, .int .i64 le, .bool mo, .int .i64 nx, .slice B4 p d4] 53)) w5 := by
           rwa [show (w4.alloc (.cells #[.int .i64 fn, .int .i64 0, .slice none 0 0, .slice none 0 0, .int .i64 0, .int .i64 0, .int .u16 0, .int .u16 0, .int .u16 0, .int .i64 cd, .int .i64 le, .bool mo, .int .i64 nx, .slice B4 p d4] 53)).heap.size = w4.heap.size + 1 by simp] at hb5
         have hbx := box14 _ _ _ _ _ _ _ _ _ _ _ _ _ _ _ w4 w5 hk5
         obtain ⟨hc0, hc1, hc2, hc3, hc4, hc5, hc6, hc7, hc8, hc9, hc10, hc11, hc12, hc13⟩ := cells14 hbx
         have hlt5 : w4.heap.size < w5.heap.size := hbx.lt
         have hal5 : Below w5.heap.size w5 (w5.alloc (.cells #[.int .i64 fn, .int .i64 0, .slice none 0 0, .slice none 0 0, .int .i64 0, .int .i64 0, .int .u16 0, .int .u16 0, .int .u16 0, .int .i64 cd, .int .i64 le, .bool mo, .int .i64 nx, .slice B5 p d5] 53)) := (Below.refl w5.heap.size w5).alloc (Nat.le_refl _) _
         have HO45 := Lib.hid (ol_of_own (own2_keep (own2_keep HO4.out hb5) hal5))
         have HO55 := Lib.hid (ol_of_own (own2_keep ho5 hal5))
         have HX5 := Lib.hid (hbx.below hal5 hlt5)
         have HK5 := Lib.hid ((HK4.out.trans (hb5.mono HK4.out.size)).trans (hal5.mono (HK4.out.trans (hb5.mono HK4.out.size)).size))
         clear ho5 hb5 hk5 hbx hal5)
      | (go_at_call 37
         refine (sametell_yes fn 0 0 0 0 0 0 cd le mo nx [] [] ps 0 0 p none none B4 none none B5 0 0 d4 0 0 d5 _ BRow.nil BRow.nil (Row.nil _ _ _ _) (Row.nil _ _ _ _) HO45.out HO55.out (by omega) (by omega) (by omega)).mono ?_
         rintro e w6 ⟨rfl, hb6⟩
         have HX6 := Lib.hid (HX5.out.below hb6 HX5.out.lt)
         have HO6 := Lib.hid (HO45.out.below hb6)
         have HK6 := Lib.hid (HK5.out.trans (hb6.mono HK5.out.size))
         have HL6 := Lib.hid (HL3.out.below (HK5.out.trans (hb6.mono HK5.out.size)))
         have HW6 := Lib.hid (HW3.out.below (HK5.out.trans (hb6.mono HK5.out.size)) HW3.out.lt)
         clear hb6 hc0 hc1 hc2 hc3 hc4 hc5 hc6 hc7 hc8 hc9 hc10 hc11 hc12 hc13
         obtain ⟨hc0, hc1, hc2, hc3, hc4, hc5, hc6, hc7, hc8, hc9, hc10, hc11, hc12, hc13⟩ := cells14 HX6.out)
      | (go_at_call 34
         refine (staysobjs_any B os.length d w2.heap.size os _ HL6.out HW6.out (by omega)).mono ?_
         rintro e w7 ⟨rfl, d7, rfl⟩
         have HO7 : Hid (OL (w6.drewN d7) (w6.drewN d7).heap.size B4 p ps) := HO6
         have HB7 := Lib.hid (below_drewN (HB3.out.trans (HK6.out.mono HB3.out.size)) d7)))
    go_ret
    exact ⟨rfl, HB7.out⟩
  · have hus := hfit.2
    have HFT := Lib.hid hfit
    clear hfit
    go_wp2_with (first
      | (go_at_call 27
         refine (lentobjs_any B os.length d os _ HL.out (by omega)).mono ?_
         rintro e w3 ⟨rfl, hw3, hb3⟩
         have HW3 := Lib.hid hw3
         have HM3 := Lib.hid (ol_of_whole rfl hw3)
         have HL3 := Lib.hid (HL.out.below hb3)
         have HB3 := Lib.hid (HB2.out.trans (hb3.mono HB2.out.size))
         clear hw3 hb3)
      | (go_at_call 44
         refine (HA.out _ _ _ _ HM3.out (by omega)).mono ?_
         rintro e w4 ⟨B4, d4, rfl, ho4, hb4⟩
         have hk4 : Below w3.heap.size w3 (w4.alloc (.cells #[.int .i64 43, .int .i64 0, .slice none 0 0, .slice none 0 0, .int .i64 0, .int .i64 0, .int .u16 0, .int .u16 0, .int .u16 0, .int .i64 cd, .int .i64 le, .bool mo, .int .i64 nx, .slice B4 p d4] 53)) := hb4.alloc hb4.size _
         have HK4 := Lib.hid hk4
         have HL4 := Lib.hid (HL3.out.below hk4)
         have HO4 := Lib.hid (own2_keep ho4 ((Below.refl w4.heap.size w4).alloc (Nat.le_refl _) (.cells #[.int .i64 43, .int .i64 0, .slice none 0 0, .slice none 0 0, .int .i64 0, .int .i64 0, .int .u16 0, .int .u16 0, .int .u16 0, .int .i64 cd, .int .i64 le, .bool mo, .int .i64 nx, .slice B4 p d4] 53)))
         clear ho4 hb4 hk4)
      | (go_at_call 45
         refine (HF.out _ _ _ _ HL4.out hcap).mono ?_
         rintro e w5 ⟨B5, d5, rfl, ho5, hb5⟩
         have hk5 : Below (w4.heap.size + 1) (w4.alloc (.cells #[.int .i64 43, .int .i64 0, .slice none 0 0, .slice none 0 0, .int .i64 0, .int .i64 0, .int .u16 0, .int .u16 0, .int .u16 0, .int .i64 cd, .int .i64 le, .bool mo, .int .i64 nx, .slice B4 p d4] 53)) w5 := by
           rwa [show (w4.alloc (.cells #[.int .i64 43, .int .i64 0, .slice none 0 0, .slice none 0 0, .int .i64 0, .int .i64 0, .int .u16 0, .int .u16 0, .int .u16 0, .int .i64 cd, .int .i64 le, .bool mo, .int .i64 nx, .slice B4 p d4] 53)).heap.size = w4.heap.size + 1 by simp] at hb5
         have hbx := box14 _ _ _ _ _ _ _ _ _ _ _ _ _ _ _ w4 w5 hk5
         obtain ⟨hc0, hc1, hc2, hc3, hc4, hc5, hc6, hc7, hc8, hc9, hc10, hc11, hc12, hc13⟩ := cells14 hbx
         have hlt5 : w4.heap.size < w5.heap.size := hbx.lt
         have hal5 : Below w5.heap.size w5 (w5.alloc (.cells #[.int .i64 43, .int .i64 0, .slice none 0 0, .slice none 0 0, .int .i64 0, .int .i64 0, .int .u16 0, .int .u16 0, .int .u16 0, .int .i64 cd, .int .i64 le, .bool mo, .int .i64 nx, .slice B5 p d5] 53)) := (Below.refl w5.heap.size w5).alloc (Nat.le_refl _) _
         have HO45 := Lib.hid (ol_of_own (own2_keep (own2_keep HO4.out hb5) hal5))
         have HO55 := Lib.hid (ol_of_own (own2_keep ho5 hal5))
         have HX5 := Lib.hid (hbx.below hal5 hlt5)
         have HK5 := Lib.hid ((HK4.out.trans (hb5.mono HK4.out.size)).trans (hal5.mono (HK4.out.trans (hb5.mono HK4.out.size)).size))
         clear ho5 hb5 hk5 hbx hal5)
      | (go_at_call 37
         refine (sametell_yes 43 0 0 0 0 0 0 cd le mo nx [] [] ps 0 0 p none none B4 none none B5 0 0 d4 0 0 d5 _ BRow.nil BRow.nil (Row.nil _ _ _ _) (Row.nil _ _ _ _) HO45.out HO55.out (by omega) (by omega) (by omega)).mono ?_
         rintro e w6 ⟨rfl, hb6⟩
         have HX6 := Lib.hid (HX5.out.below hb6 HX5.out.lt)
         have HO6 := Lib.hid (HO45.out.below hb6)
         have HK6 := Lib.hid (HK5.out.trans (hb6.mono HK5.out.size))
         have HL6 := Lib.hid (HL3.out.below (HK5.out.trans (hb6.mono HK5.out.size)))
         have HW6 := Lib.hid (HW3.out.below (HK5.out.trans (hb6.mono HK5.out.size)) HW3.out.lt)
         clear hb6 hc0 hc1 hc2 hc3 hc4 hc5 hc6 hc7 hc8 hc9 hc10 hc11 hc12 hc13
         obtain ⟨hc0, hc1, hc2, hc3, hc4, hc5, hc6, hc7, hc8, hc9, hc10, hc11, hc12, hc13⟩ := cells14 HX6.out)
      | (go_at_call 34
         refine (staysobjs_any B os.length d w2.heap.size os _ HL6.out HW6.out (by omega)).mono ?_
         rintro e w7 ⟨rfl, d7, rfl⟩
         have HO7 : Hid (OL (w6.drewN d7) (w6.drewN d7).heap.size B4 p ps) := HO6
         have HB7 := Lib.hid (below_drewN (HB3.out.trans (HK6.out.mono HB3.out.size)) d7))
      | (go_at_call 28
         refine (pbT_43 cd le nx mo _ ps none none B4 0 0 p d4 _ rfl HO7.out HFT.out hcd hle hnx).mono ?_
         rintro e w8 ⟨m8, C8, cc8, rfl, hm8, ho8, hb8⟩
         have hm9 : (m8 : Int) ≤ 253 := by omega
         have HB8 := Lib.hid (HB7.out.trans (hb8.mono HB7.out.size))
         clear hm8 ho8 hb8))
    go_ret
    exact ⟨rfl, HB8.out⟩

set_option maxRecDepth 100000 in
set_option maxHeartbeats 2500000 in
theorem walk_near (A : Option Addr) (n c : Nat) (ks : List Int) (a1 a2 o1 co : Int) (w : World) (hr : Row .i64 w w.heap.size A n ks) (hw : ∀ k ∈ ks, -9223372036854775808 ≤ k ∧ k ≤ 9223372036854775807) (hn : n ≤ 9223372036854775807) (h1 : a1 % 6 = co) (h2 : a2 % 258 = o1) (p0 : -9223372036854775808 ≤ a1) (p1 : a1 ≤ 9223372036854775807) (q0 : -9223372036854775808 ≤ a2) (q1 : a2 ≤ 9223372036854775807) :
    Calls Try.prog 11 #[.slice A n c, .int .i64 a1, .int .i64 a2, .bool true] w fun e w' => e = .returned (.bool true) ∧ Below w.heap.size w w' := by
  have HO := Lib.hid (fun W hW => lobjects_any A n c ks W hW hw hn)
  have HR := Lib.hid hr
  have C1 := Lib.hid (fun W => within_any a1 6 W p0 p1 (by omega) (by omega))
  rw [h1] at C1
  have C2 := Lib.hid (fun W => within_any a2 258 W q0 q1 (by omega) (by omega))
  rw [h2] at C2
  have hwo : IntKind.i64.wrap (o1 - 1) = o1 - 1 := IntWalk.i64_in _ (by omega)
  clear h1 h2 p0 p1 q0 q1
  clear hr hw
  go_enter Try.func11, Try.ntmps11
  go_wp2_with (first
    | (go_at_call 42; refine (awake7_any _).mono ?_; rintro e w1 ⟨rfl, hb⟩; have HB1 := Lib.hid hb; clear hb)
    | (go_at_call 43; refine (HO.out _ ((HR.out.below HB1.out).more HB1.out.size)).mono ?_; rintro e w2 ⟨B, m, d, os, rfl, hg, hown, hb⟩; have HG := Lib.hid hg; have HOW := Lib.hid hown; have HB2 := Lib.hid (HB1.out.trans (hb.mono HB1.out.size)); clear hb hg hown)
    | (go_at_call 13; (with_reducible refine (C1.out _).mono ?_); rintro e w' ⟨rfl, rfl⟩)
    | (go_at_call 13; (with_reducible refine (C2.out _).mono ?_); rintro e w' ⟨rfl, rfl⟩))
  have hm : os.length = m := by have := HOW.out.1; rw [obs_length] at this; omega
  subst hm
  have hcap := own2_cap HOW.out
  have h43 := HG.out.l43
  have HL := Lib.hid (ol_of_own HOW.out)
  obtain ⟨fn, cd, le, nx, mo, E, p, ps, hp, hE, hA, hRf⟩ := ans_both os HG.out co (o1 - 1)
  have HA := Lib.hid hA
  have HF := Lib.hid hRf
  clear hA hRf
  rcases hE with hE | ⟨rfl, rfl, hcd, hle, hnx, hfit⟩
  · have hE0 : (E != 0) = true := by simpa using hE
    go_wp2_with (first
      | (go_at_call 27
         refine (lentobjs_any B os.length d os _ HL.out (by omega)).mono ?_
         rintro e w3 ⟨rfl, hw3, hb3⟩
         have HW3 := Lib.hid hw3
         have HM3 := Lib.hid (ol_of_whole rfl hw3)
         have HL3 := Lib.hid (HL.out.below hb3)
         have HB3 := Lib.hid (HB2.out.trans (hb3.mono HB2.out.size))
         clear hw3 hb3)
      | (go_at_call 44
         refine (HA.out _ _ _ _ HM3.out (by omega)).mono ?_
         rintro e w4 ⟨B4, d4, rfl, ho4, hb4⟩
         have hk4 : Below w3.heap.size w3 (w4.alloc (.cells #[.int .i64 fn, .int .i64 0, .slice none 0 0, .slice none 0 0, .int .i64 0, .int .i64 0, .int .u16 0, .int .u16 0, .int .u16 0, .int .i64 cd, .int .i64 le, .bool mo, .int .i64 nx, .slice B4 p d4] 53)) := hb4.alloc hb4.size _
         have HK4 := Lib.hid hk4
         have HL4 := Lib.hid (HL3.out.below hk4)
         have HO4 := Lib.hid (own2_keep ho4 ((Below.refl w4.heap.size w4).alloc (Nat.le_refl _) (.cells #[.int .i64 fn, .int .i64 0, .slice none 0 0, .slice none 0 0, .int .i64 0, .int .i64 0, .int .u16 0, .int .u16 0, .int .u16 0, .int .i64 cd, .int .i64 le, .bool mo, .int .i64 nx, .slice B4 p d4] 53)))
         clear ho4 hb4 hk4)
      | (go_at_call 45
         refine (HF.out _ _ _ _ HL4.out hcap).mono ?_
         rintro e w5 ⟨B5, d5, rfl, ho5, hb5⟩
         have hk5 : Below (w4.heap.size + 1) (w4.alloc (.cells #[.int .i64 fn, .int .i64 0, .slice none 0 0, .slice none 0 0, .int .i64 0, .int .i64 0, .int .u16 0, .int .u16 0, .int .u16 0, .int .i64 cd, .int .i64 le, .bool mo, .int .i64 nx, .slice B4 p d4] 53)) w5 := by
           rwa [show (w4.alloc (.cells #[.int .i64 fn, .int .i64 0, .slice none 0 0, .slice none 0 0, .int .i64 0, .int .i64 0, .int .u16 0, .int .u16 0, .int .u16 0, .int .i64 cd, .int .i64 le, .bool mo, .int .i64 nx, .slice B4 p d4] 53)).heap.size = w4.heap.size + 1 by simp] at hb5
         have hbx := box14 _ _ _ _ _ _ _ _ _ _ _ _ _ _ _ w4 w5 hk5
         obtain ⟨hc0, hc1, hc2, hc3, hc4, hc5, hc6, hc7, hc8, hc9, hc10, hc11, hc12, hc13⟩ := cells14 hbx
         have hlt5 : w4.heap.size < w5.heap.size := hbx.lt
         have hal5 : Below w5.heap.size w5 (w5.alloc (.cells #[.int .i64 fn, .int .i64 0, .slice none 0 0, .slice none 0 0, .int .i64 0, .int .i64 0, .int .u16 0, .int .u16 0, .int .u16 0, .int .i64 cd, .int .i64 le, .bool mo, .int .i64 nx, .slice B5 p d5] 53)) := (Below.refl w5.heap.size w5).alloc (Nat.le_refl _) _
         have HO45 := Lib.hid (ol_of_own (own2_keep (own2_keep HO4.out hb5) hal5))
         have HO55 := Lib.hid (ol_of_own (own2_keep ho5 hal5))
         have HX5 := Lib.hid (hbx.below hal5 hlt5)
         have HK5 := Lib.hid ((HK4.out.trans (hb5.mono HK4.out.size)).trans (hal5.mono (HK4.out.trans (hb5.mono HK4.out.size)).size))
         clear ho5 hb5 hk5 hbx hal5)
      | (go_at_call 37
         refine (sametell_yes fn 0 0 0 0 0 0 cd le mo nx [] [] ps 0 0 p none none B4 none none B5 0 0 d4 0 0 d5 _ BRow.nil BRow.nil (Row.nil _ _ _ _) (Row.nil _ _ _ _) HO45.out HO55.out (by omega) (by omega) (by omega)).mono ?_
         rintro e w6 ⟨rfl, hb6⟩
         have HX6 := Lib.hid (HX5.out.below hb6 HX5.out.lt)
         have HO6 := Lib.hid (HO45.out.below hb6)
         have HK6 := Lib.hid (HK5.out.trans (hb6.mono HK5.out.size))
         have HL6 := Lib.hid (HL3.out.below (HK5.out.trans (hb6.mono HK5.out.size)))
         have HW6 := Lib.hid (HW3.out.below (HK5.out.trans (hb6.mono HK5.out.size)) HW3.out.lt)
         clear hb6 hc0 hc1 hc2 hc3 hc4 hc5 hc6 hc7 hc8 hc9 hc10 hc11 hc12 hc13
         obtain ⟨hc0, hc1, hc2, hc3, hc4, hc5, hc6, hc7, hc8, hc9, hc10, hc11, hc12, hc13⟩ := cells14 HX6.out)
      | (go_at_call 34
         refine (staysobjs_any B os.length d w2.heap.size os _ HL6.out HW6.out (by omega)).mono ?_
         rintro e w7 ⟨rfl, d7, rfl⟩
         have HO7 : Hid (OL (w6.drewN d7) (w6.drewN d7).heap.size B4 p ps) := HO6
         have HB7 := Lib.hid (below_drewN (HB3.out.trans (HK6.out.mono HB3.out.size)) d7)))
    go_ret
    exact ⟨rfl, HB7.out⟩
  · have hus := hfit.2
    have HFT := Lib.hid hfit
    clear hfit
    go_wp2_with (first
      | (go_at_call 27
         refine (lentobjs_any B os.length d os _ HL.out (by omega)).mono ?_
         rintro e w3 ⟨rfl, hw3, hb3⟩
         have HW3 := Lib.hid hw3
         have HM3 := Lib.hid (ol_of_whole rfl hw3)
         have HL3 := Lib.hid (HL.out.below hb3)
         have HB3 := Lib.hid (HB2.out.trans (hb3.mono HB2.out.size))
         clear hw3 hb3)
      | (go_at_call 44
         refine (HA.out _ _ _ _ HM3.out (by omega)).mono ?_
         rintro e w4 ⟨B4, d4, rfl, ho4, hb4⟩
         have hk4 : Below w3.heap.size w3 (w4.alloc (.cells #[.int .i64 43, .int .i64 0, .slice none 0 0, .slice none 0 0, .int .i64 0, .int .i64 0, .int .u16 0, .int .u16 0, .int .u16 0, .int .i64 cd, .int .i64 le, .bool mo, .int .i64 nx, .slice B4 p d4] 53)) := hb4.alloc hb4.size _
         have HK4 := Lib.hid hk4
         have HL4 := Lib.hid (HL3.out.below hk4)
         have HO4 := Lib.hid (own2_keep ho4 ((Below.refl w4.heap.size w4).alloc (Nat.le_refl _) (.cells #[.int .i64 43, .int .i64 0, .slice none 0 0, .slice none 0 0, .int .i64 0, .int .i64 0, .int .u16 0, .int .u16 0, .int .u16 0, .int .i64 cd, .int .i64 le, .bool mo, .int .i64 nx, .slice B4 p d4] 53)))
         clear ho4 hb4 hk4)
      | (go_at_call 45
         refine (HF.out _ _ _ _ HL4.out hcap).mono ?_
         rintro e w5 ⟨B5, d5, rfl, ho5, hb5⟩
         have hk5 : Below (w4.heap.size + 1) (w4.alloc (.cells #[.int .i64 43, .int .i64 0, .slice none 0 0, .slice none 0 0, .int .i64 0, .int .i64 0, .int .u16 0, .int .u16 0, .int .u16 0, .int .i64 cd, .int .i64 le, .bool mo, .int .i64 nx, .slice B4 p d4] 53)) w5 := by
           rwa [show (w4.alloc (.cells #[.int .i64 43, .int .i64 0, .slice none 0 0, .slice none 0 0, .int .i64 0, .int .i64 0, .int .u16 0, .int .u16 0, .int .u16 0, .int .i64 cd, .int .i64 le, .bool mo, .int .i64 nx, .slice B4 p d4] 53)).heap.size = w4.heap.size + 1 by simp] at hb5
         have hbx := box14 _ _ _ _ _ _ _ _ _ _ _ _ _ _ _ w4 w5 hk5
         obtain ⟨hc0, hc1, hc2, hc3, hc4, hc5, hc6, hc7, hc8, hc9, hc10, hc11, hc12, hc13⟩ := cells14 hbx
         have hlt5 : w4.heap.size < w5.heap.size := hbx.lt
         have hal5 : Below w5.heap.size w5 (w5.alloc (.cells #[.int .i64 43, .int .i64 0, .slice none 0 0, .slice none 0 0, .int .i64 0, .int .i64 0, .int .u16 0, .int .u16 0, .int .u16 0, .int .i64 cd, .int .i64 le, .bool mo, .int .i64 nx, .slice B5 p d5] 53)) := (Below.refl w5.heap.size w5).alloc (Nat.le_refl _) _
         have HO45 := Lib.hid (ol_of_own (own2_keep (own2_keep HO4.out hb5) hal5))
         have HO55 := Lib.hid (ol_of_own (own2_keep ho5 hal5))
         have HX5 := Lib.hid (hbx.below hal5 hlt5)
         have HK5 := Lib.hid ((HK4.out.trans (hb5.mono HK4.out.size)).trans (hal5.mono (HK4.out.trans (hb5.mono HK4.out.size)).size))
         clear ho5 hb5 hk5 hbx hal5)
      | (go_at_call 37
         refine (sametell_yes 43 0 0 0 0 0 0 cd le mo nx [] [] ps 0 0 p none none B4 none none B5 0 0 d4 0 0 d5 _ BRow.nil BRow.nil (Row.nil _ _ _ _) (Row.nil _ _ _ _) HO45.out HO55.out (by omega) (by omega) (by omega)).mono ?_
         rintro e w6 ⟨rfl, hb6⟩
         have HX6 := Lib.hid (HX5.out.below hb6 HX5.out.lt)
         have HO6 := Lib.hid (HO45.out.below hb6)
         have HK6 := Lib.hid (HK5.out.trans (hb6.mono HK5.out.size))
         have HL6 := Lib.hid (HL3.out.below (HK5.out.trans (hb6.mono HK5.out.size)))
         have HW6 := Lib.hid (HW3.out.below (HK5.out.trans (hb6.mono HK5.out.size)) HW3.out.lt)
         clear hb6 hc0 hc1 hc2 hc3 hc4 hc5 hc6 hc7 hc8 hc9 hc10 hc11 hc12 hc13
         obtain ⟨hc0, hc1, hc2, hc3, hc4, hc5, hc6, hc7, hc8, hc9, hc10, hc11, hc12, hc13⟩ := cells14 HX6.out)
      | (go_at_call 34
         refine (staysobjs_any B os.length d w2.heap.size os _ HL6.out HW6.out (by omega)).mono ?_
         rintro e w7 ⟨rfl, d7, rfl⟩
         have HO7 : Hid (OL (w6.drewN d7) (w6.drewN d7).heap.size B4 p ps) := HO6
         have HB7 := Lib.hid (below_drewN (HB3.out.trans (HK6.out.mono HB3.out.size)) d7))
      | (go_at_call 28
         refine (pbT_43 cd le nx mo _ ps none none B4 0 0 p d4 _ rfl HO7.out HFT.out hcd hle hnx).mono ?_
         rintro e w8 ⟨m8, C8, cc8, rfl, hm8, ho8, hb8⟩
         have hm9 : (m8 : Int) ≤ 253 := by omega
         have HB8 := Lib.hid (HB7.out.trans (hb8.mono HB7.out.size))
         clear hm8 ho8 hb8))
    go_ret
    exact ⟨rfl, HB8.out⟩

theorem walk (a0 : Option Addr) (len0 cap0 : Nat) (z0 : List Int) (a1 : Int) (a2 : Int) (a3 : Bool) (w : World) (w0 : IsRow .i64 w a0 len0 cap0 z0) (w1 : (Lit.int .i64 a1).wf = true) (w2 : (Lit.int .i64 a2).wf = true) :
    Calls Try.prog 11 #[.slice a0 len0 cap0, .int .i64 a1, .int .i64 a2, .bool a3] w fun e w' => e = .returned (.bool true) ∧ Below w.heap.size w w' := by
  have h1 := bounds_i64 w1
  have h2 := bounds_i64 w2
  have hle := w0.le
  have hin : ∀ k ∈ z0.take len0, -9223372036854775808 ≤ k ∧ k ≤ 9223372036854775807 := fun k hk => by
    have := bounds_i64 (w0.wf k hk)
    omega
  cases a3
  · exact walk_raw a0 len0 cap0 _ a1 a2 w w0.row hin (by unfold maxLen at hle; omega)
  · exact walk_near a0 len0 cap0 _ a1 a2 _ _ w w0.row hin (by unfold maxLen at hle; omega) rfl rfl h1.1 (by omega) h2.1 (by omega)

set_option maxRecDepth 100000 in
theorem lifted (os : Os) (started : os.Started) (H : Type) (enc : TypeId × Value → H) :
    ReturnsInHanded {} Try.checked os 11 .any (Rows.idenAnswersSpec.pre6 enc Try.prog Try.f11 Rows.idenAnswersRow.domain false) (Rows.idenAnswersSpec.post enc Try.prog Try.f11 false true false false) := by
  refine returnsInHanded_of_change (C := Try.checked) own started (by kernel_rfl) Try.func11
    (ChangeSpec.witness6 (enc := enc) (C := Try.checked) false ⟨#[], #[.slice none 0 0, .int .i64 0, .int .i64 0, .bool false], []⟩ 8 (by kernel_rfl) (by kernel_rfl) (by kernel_rfl) (by kernel_rfl)) ?_
  intro W base args ds gs before hval0 hW hcnd _
  have hval : ∀ (j : Nat) t v, Try.f11.params[j]? = some t → args[j]? = some v → Value.okWide Try.prog W .any base t v := hval0
  have hW' := hW
  obtain ⟨p, q, hA0, hV, rfl, hfz, hnd⟩ := hW
  have hA : DataW.TrodAll enc Try.prog W 0 (fun _ => true) true Try.f11.params.toList args.toList ds p := hA0
  rw [Try.params11] at hA hval
  obtain ⟨v0, vs0, d0, ds0, p0, q0, hargs, rfl, rfl, h0, r0⟩ := trodAll_cons hA
  obtain ⟨v1, vs1, d1, ds1, p1, q1, rfl, rfl, rfl, h1, r1⟩ := trodAll_cons r0
  obtain ⟨v2, vs2, d2, ds2, p2, q2, rfl, rfl, rfl, h2, r2⟩ := trodAll_cons r1
  obtain ⟨v3, vs3, d3, ds3, p3, q3, rfl, rfl, rfl, h3, r3⟩ := trodAll_cons r2
  obtain ⟨rfl, rfl, rfl⟩ := trodAll_nil r3
  obtain rfl : args = #[v0, v1, v2, v3] := by cases args; simp_all
  obtain ⟨rfl, rfl⟩ := trodVars_none hV
  obtain ⟨a0, len0, cap0, rfl⟩ := okWide_slice Try.underlying41 (hval 0 41 v0 rfl rfl)
  have k0 := h0
  have lt0 : ∀ x ∈ p0, x.block < W.heap.size := by obtain ⟨m, hm⟩ := k0; exact DataW.trod_lt m _ _ _ hm
  obtain ⟨z0, w0⟩ : ∃ zs, IsRow .i64 W a0 len0 cap0 zs := by
    obtain ⟨fuel, hf⟩ := h0
    rcases open_ints Try.underlying41 Try.underlying3 (by kernel_rfl) hf with ⟨hcs, _⟩ | ⟨x, l, c, zs, hcs, _, hl, hm, hz, _, hcell, hwz⟩
    · simp [Value.cells] at hcs
      obtain ⟨rfl, rfl, rfl⟩ := hcs
      exact ⟨[], .inl ⟨rfl, rfl, rfl, rfl⟩⟩
    · simp [Value.cells] at hcs
      obtain ⟨rfl, rfl, rfl⟩ := hcs
      exact ⟨zs, .inr ⟨_, rfl, hl, hm, by simpa using hz, hcell, hwz⟩⟩
  obtain ⟨a1, rfl, rfl, rfl, w1⟩ := open_int Try.underlying3 (hval 1 3 v1 rfl rfl) h1
  obtain ⟨a2, rfl, rfl, rfl, w2⟩ := open_int Try.underlying3 (hval 2 3 v2 rfl rfl) h2
  obtain ⟨a3, rfl, rfl, rfl⟩ := open_bool Try.underlying4 (hval 3 4 v3 rfl rfl) h3
  clear hA0 hval0
  refine (walk a0 len0 cap0 z0 a1 a2 a3 W w0 w1 w2).mono fun e W' ⟨he, bel⟩ => ?_
  subst he
  exact ⟨_, rfl, _, _, _, [], _, [], hW', trodAll_mk1 (shut_bool Try.underlying4 _), (trodAll_cons_mk (Below.trod laidOut (by kernel_rfl) (of_decide_eq_true (by kernel_rfl)) k0 bel lt0) (trodAll_cons_mk (shut_int Try.underlying3 w1) (trodAll_cons_mk (shut_int Try.underlying3 w2) (trodAll_cons_mk (shut_bool Try.underlying4 _) trodAll_mk0)))), rfl, bel.frame _, fun h => by cases h⟩

theorem over : Rows.idenAnswersRow.holds Try.pinned (OpenSpec.ofChange Rows.idenAnswersSpec) :=
  OpenClaim.holds_of_wide 11 Try.f11 rfl rfl rfl rfl rfl rfl rfl ⟨rfl, rfl, rfl, rfl, rfl⟩ rfl rfl rfl rfl rfl (by kernel_rfl) Try.func11 (by kernel_rfl)
    (of_decide_eq_true (by kernel_rfl)) (by unfold Func.isWrapper; first | (rw [if_pos (by decide +kernel)]; kernel_rfl) | (rw [if_neg (by decide +kernel)]; exact ⟨rfl, rfl⟩))
    (fun os started H enc _ => lifted os started H enc)

theorem proved : Rows.IdenAnswersSaid := over
#print axioms proved
end Go.Proofs.Ytoljpdamalcjeaa.idenAnswers

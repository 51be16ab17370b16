/- Package desk: Many, End, Close, Open, New. No statement is proved here. -/
import Derived.Test.YtokljdkbheogoaaDesk2
namespace Go.Proofs.Ytokljdkbheogoaa
open Go.ChangeShapes Go.WideShapes Go.ChangeAt Go.RowKit
set_option linter.unusedVariables false
set_option linter.unusedSimpArgs false

section
variable {w : World} {g M : Nat} {st : List Int}

set_option maxRecDepth 100000 in
set_option maxHeartbeats 1000000 in
theorem many_any (h : DkAt 104 w g M st) : Calls Try.prog 35 #[.pointer (some ⟨g, 0, none⟩)] w fun e w' => e = .returned (.int .i64 (nz st : Int)) ∧ Below w.heap.size w w' := by
  have HC := Lib.hid (taken_any st h.len w)
  have HR := Lib.hid h.head.ranges1
  have HI := Lib.hid (show (Try.prog.info? 102).map (·.size) = some (st.map (Value.int .i64)).length by rw [List.length_map, h.len]; exact infoP)
  clear h
  go_enter Try.func35, Try.ntmps35
  go_wp2_with (first
    | (with_reducible refine wpList_load_mid (op := ⟨some 6, _, _, _, _, _⟩) rfl 102 (.tmp 5) rfl g 1 rfl (st.map (Value.int .i64)) (.array 32 3) HR.out Try.underlying102 rfl HI.out ?_)
    | (go_at_call 68
       (with_reducible refine HC.out.mono ?_)
       rintro e w2 ⟨rfl, hb⟩
       have HB2 := Lib.hid hb
       clear hb))
  go_ret
  exact ⟨rfl, HB2.out⟩

set_option maxRecDepth 100000 in
set_option maxHeartbeats 1000000 in
theorem end_yes (k : Nat) (h : DkAt 104 w g M st) (hk : k < M) (hv : st.getD k 0 = 1) : Calls Try.prog 31 #[.pointer (some ⟨g, 0, none⟩), .int .i64 (k : Int)] w fun e w' => e = .returned (.bool true) ∧ DkAt 104 w' g M (st.set k 2) ∧ Off (fun i => i = g) w w' := by
  have hm := h.most
  have CS := Lib.hid (state_any (k : Int) h)
  rw [dSt_in hk] at CS
  obtain ⟨x, hX⟩ : ∃ x, st.getD k 0 = x := ⟨_, rfl⟩
  rw [hX] at CS hv
  have hxb : (x != 1) = false := by simp [hv]
  clear hX
  obtain ⟨st2, hS⟩ : ∃ st2, st2 = st.set k 2 := ⟨_, rfl⟩
  have HC := Lib.hid (fun W => with_any st k 2 W h.len (by omega))
  rw [← hS] at HC
  have HS := Lib.hid hS
  have HLN := Lib.hid h.len
  have HR := Lib.hid h.head.ranges1
  have HI := Lib.hid (show (Try.prog.info? 102).map (·.size) = some (st.map (Value.int .i64)).length by rw [List.length_map, h.len]; exact infoP)
  have HZ := Lib.hid (show (st2.map (Value.int .i64)).toArray.size = 32 by rw [hS]; simp [h.len])
  have HI2 := Lib.hid (show (Try.prog.info? 102).map (·.size) = some (st2.map (Value.int .i64)).toArray.size by rw [HZ.out]; exact infoP)
  have HD := Lib.hid h
  clear h hS
  go_enter Try.func31, Try.ntmps31
  go_wp2_with (first
    | (go_at_call 33; (with_reducible refine CS.out.mono ?_); rintro e w1 ⟨rfl, rfl⟩)
    | (with_reducible refine wpList_load_mid (op := ⟨some 13, _, _, _, _, _⟩) rfl 102 (.tmp 12) rfl g 1 rfl (st.map (Value.int .i64)) (.array 32 3) HR.out Try.underlying102 rfl HI.out ?_)
    | (go_at_call 67
       (with_reducible refine (HC.out _).mono ?_)
       rintro e w2 ⟨rfl, hb⟩
       have HD2 := Lib.hid (HD.out.below hb)
       have HB2 := Lib.hid hb
       have HT2 := Lib.hid (show w2.there g 1 (st2.map (Value.int .i64)).toArray.size by rw [HZ.out]; exact HD2.out.head.there 1 32 (by simp [HLN.out]))
       clear hb)
    | (with_reducible refine wpList_store_mid rfl 102 (.tmp 17) (.tmp 15) rfl g 1 (st2.map (Value.int .i64)).toArray rfl rfl HT2.out HI2.out (ints_one _) ?_))
  have hd3 := HD2.out.laid k hk 2
  have ho3 := off_lay (S := fun i => i = g) (a := w) (g := g) (.inl rfl) (st2.map (Value.int .i64)).toArray.toList 1 w2 (Off.of_below HB2.out)
  go_ret
  exact ⟨rfl, by rw [HS.out]; simpa using hd3, by simpa using ho3⟩

set_option maxRecDepth 100000 in
set_option maxHeartbeats 1000000 in
theorem end_no (c : Int) (h : DkAt 104 w g M st) (hv : dSt M st c ≠ 1) : Calls Try.prog 31 #[.pointer (some ⟨g, 0, none⟩), .int .i64 c] w fun e w' => e = .returned (.bool false) ∧ w = w' := by
  have CS := Lib.hid (state_any c h)
  obtain ⟨x, hX⟩ : ∃ x, dSt M st c = x := ⟨_, rfl⟩
  rw [hX] at CS hv
  have hxb : (x != 1) = true := by simp [hv]
  clear hX h
  go_enter Try.func31, Try.ntmps31
  go_wp2_with (first
    | (go_at_call 33; (with_reducible refine CS.out.mono ?_); rintro e w1 ⟨rfl, rfl⟩))
  go_ret
  exact ⟨rfl, rfl⟩

set_option maxRecDepth 100000 in
set_option maxHeartbeats 1000000 in
theorem close_yes (k : Nat) (h : DkAt 104 w g M st) (hk : k < M) (hv : st.getD k 0 ≠ 0) : Calls Try.prog 29 #[.pointer (some ⟨g, 0, none⟩), .int .i64 (k : Int)] w fun e w' => e = .returned (.bool true) ∧ DkAt 104 w' g M (st.set k 0) ∧ Off (fun i => i = g) w w' := by
  have hm := h.most
  have CS := Lib.hid (state_any (k : Int) h)
  rw [dSt_in hk] at CS
  obtain ⟨x, hX⟩ : ∃ x, st.getD k 0 = x := ⟨_, rfl⟩
  rw [hX] at CS hv
  have hxb : (x == 0) = false := by simp [hv]
  clear hX
  obtain ⟨st2, hS⟩ : ∃ st2, st2 = st.set k 0 := ⟨_, rfl⟩
  have HC := Lib.hid (fun W => with_any st k 0 W h.len (by omega))
  rw [← hS] at HC
  have HS := Lib.hid hS
  have HLN := Lib.hid h.len
  have HR := Lib.hid h.head.ranges1
  have HI := Lib.hid (show (Try.prog.info? 102).map (·.size) = some (st.map (Value.int .i64)).length by rw [List.length_map, h.len]; exact infoP)
  have HZ := Lib.hid (show (st2.map (Value.int .i64)).toArray.size = 32 by rw [hS]; simp [h.len])
  have HI2 := Lib.hid (show (Try.prog.info? 102).map (·.size) = some (st2.map (Value.int .i64)).toArray.size by rw [HZ.out]; exact infoP)
  have HD := Lib.hid h
  clear h hS
  go_enter Try.func29, Try.ntmps29
  go_wp2_with (first
    | (go_at_call 33; (with_reducible refine CS.out.mono ?_); rintro e w1 ⟨rfl, rfl⟩)
    | (with_reducible refine wpList_load_mid (op := ⟨some 13, _, _, _, _, _⟩) rfl 102 (.tmp 12) rfl g 1 rfl (st.map (Value.int .i64)) (.array 32 3) HR.out Try.underlying102 rfl HI.out ?_)
    | (go_at_call 67
       (with_reducible refine (HC.out _).mono ?_)
       rintro e w2 ⟨rfl, hb⟩
       have HD2 := Lib.hid (HD.out.below hb)
       have HB2 := Lib.hid hb
       have HT2 := Lib.hid (show w2.there g 1 (st2.map (Value.int .i64)).toArray.size by rw [HZ.out]; exact HD2.out.head.there 1 32 (by simp [HLN.out]))
       clear hb)
    | (with_reducible refine wpList_store_mid rfl 102 (.tmp 17) (.tmp 15) rfl g 1 (st2.map (Value.int .i64)).toArray rfl rfl HT2.out HI2.out (ints_one _) ?_))
  have hd3 := HD2.out.laid k hk 0
  have ho3 := off_lay (S := fun i => i = g) (a := w) (g := g) (.inl rfl) (st2.map (Value.int .i64)).toArray.toList 1 w2 (Off.of_below HB2.out)
  go_ret
  exact ⟨rfl, by rw [HS.out]; simpa using hd3, by simpa using ho3⟩

set_option maxRecDepth 100000 in
set_option maxHeartbeats 1000000 in
theorem close_no (c : Int) (h : DkAt 104 w g M st) (hv : dSt M st c = 0) : Calls Try.prog 29 #[.pointer (some ⟨g, 0, none⟩), .int .i64 c] w fun e w' => e = .returned (.bool false) ∧ w = w' := by
  have CS := Lib.hid (state_any c h)
  obtain ⟨x, hX⟩ : ∃ x, dSt M st c = x := ⟨_, rfl⟩
  rw [hX] at CS hv
  have hxb : (x == 0) = true := by simp [hv]
  clear hX h
  go_enter Try.func29, Try.ntmps29
  go_wp2_with (first
    | (go_at_call 33; (with_reducible refine CS.out.mono ?_); rintro e w1 ⟨rfl, rfl⟩))
  go_ret
  exact ⟨rfl, rfl⟩

end

end Go.Proofs.Ytokljdkbheogoaa

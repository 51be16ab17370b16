/- Proved: for every three ints and every byte, busbarlaw4.HeadFronts returns true. Conditions: none. -/
import Derived.Test.YtkaggkbjepggkaaAwake4
import Derived.Test.YtkaggkbjepggkaaWithin
namespace Go.Proofs.Ytkaggkbjepggkaa.headFronts
open Go.ChangeShapes Go.WideShapes Go.ChangeAt Go.RowKit
open Go.ChangeMaps (open_string shut_string)
set_option linter.unusedVariables false      -- a walk need not use every 'w<i>' (that an integer argument fits its kind)


/-- The seven bytes, where the length is small. -/
def seven (t l u : Int) : List Int := [t / 256, t % 256, 0, 0, 0, l, u]
theorem head_seven (t l u : Int) (h : hFits t l u) : headOf t l u = seven t l u := by
  obtain ⟨_, ⟨l0, l1⟩, _⟩ := h
  unfold headOf seven
  rw [show l / 256 = 0 by omega, show l % 256 = l by omega]
theorem seven_bytes (t l u : Int) (h : hFits t l u) : Bytes8 (seven t l u) := by
  obtain ⟨⟨t0, t1⟩, ⟨l0, l1⟩, u0, u1⟩ := h
  intro x hm
  simp [seven] at hm
  omega
theorem set_bytes {zs : List Int} (h : Bytes8 zs) (k : Nat) (v : Int) (h0 : 0 ≤ v) (h1 : v ≤ 255) : Bytes8 (zs.set k v) := by
  intro x hm
  rcases List.mem_or_eq_of_mem_set hm with hm | hm
  · exact h x hm
  · omega
theorem take_bytes {zs : List Int} (h : Bytes8 zs) (k : Nat) : Bytes8 (zs.take k) := fun x hm => h x (List.mem_of_mem_take hm)

theorem get_e (E : Int) (ys : List Int) (A : Option Addr) (n c : Nat) (W : World) (he : hE ys n = E) (hx : Bytes8 ys) (hr : Row .u8 W W.heap.size A n ys) (hn : n ≤ 100) :
    Calls Try.prog 9 #[.slice A n c] W fun x w' => ∃ t l u, x = .returned (.tuple #[.agg #[.int .i64 t, .int .i64 l, .int .i64 u], .int .i64 E]) ∧ Below W.heap.size W w' := by
  subst he
  exact (hget_any A n c ys W hr hx (by omega)).mono fun x w' ⟨h1, h2⟩ => ⟨_, _, _, h1, h2⟩

theorem front_e (t l u : Int) (h : hFits t l u) (k : Nat) (hk : k < 7) : hE ((seven t l u).take k) k = 3 := by
  obtain ⟨_, ⟨l0, l1⟩, _⟩ := h
  unfold hE
  by_cases h6 : k < 6
  · rw [if_pos h6]
  · obtain rfl : k = 6 := by omega
    rw [if_neg h6, if_pos (by simp [hGood, wordAt, seven, List.getD]; omega), if_pos rfl]
theorem turned_e (t l u b : Int) (h : hFits t l u) (b0 : 0 < b) (b1 : b ≤ 255) (k : Nat) (hk : k = 2 ∨ k = 3 ∨ k = 4) : hE ((seven t l u).set k b) 7 = 2 := by
  obtain ⟨_, ⟨l0, l1⟩, _⟩ := h
  unfold hE
  rw [if_neg (by omega), if_neg]
  rcases hk with rfl | rfl | rfl <;> (simp [hGood, wordAt, seven, List.getD]; try omega)
theorem same_e (t l u : Int) (h : hFits t l u) (k : Nat) (hk : k = 2 ∨ k = 3 ∨ k = 4) : hE ((seven t l u).set k 0) 7 = 0 := by
  obtain ⟨_, ⟨l0, l1⟩, _⟩ := h
  unfold hE
  rw [if_neg (by omega), if_pos, if_neg (by omega)]
  rcases hk with rfl | rfl | rfl <;> (simp [hGood, wordAt, seven, List.getD]; omega)
theorem last_e (t l u b c : Int) (hc : c = 0 ∨ c = 1) : hE ((((seven t l u).set 4 b).set 4 0).set 5 c) 7 = 2 := by
  unfold hE
  rw [if_neg (by omega), if_neg]
  simp [hGood, wordAt, seven, List.getD]
  omega

theorem within_eq (k n r : Int) (w : World) (hr : k % n = r) (h0 : -9223372036854775808 ≤ k) (h1 : k ≤ 9223372036854775807) (hn : 0 < n) (hn1 : n ≤ 4611686018427387903) :
    Calls Try.prog 13 #[.int .i64 k, .int .i64 n] w fun e w' => e = .returned (.int .i64 r) ∧ w = w' := by
  subst hr
  exact within_any k n w h0 h1 hn hn1

theorem own_below {w w' : World} {b : Nat} {e : TypeId} {v : Value} {n : Nat} {xs : List Value} (h : w.ownsRow b e 1 v n xs) (hb : Below w.heap.size w w') : w'.ownsRow b e 1 v n xs := by
  refine ⟨h.1, ?_⟩
  rcases h.2 with h0 | ⟨g, cap, cur, hv, hg, hh, rest⟩
  · exact .inl h0
  · refine .inr ⟨g, cap, cur, hv, hg, (hb.block g ?_).trans hh, rest⟩
    rcases Nat.lt_or_ge g w.heap.size with hlt | hge
    · exact hlt
    · rw [Array.getElem?_eq_none hge] at hh; cases hh
/-- A row of the call's own, opened at one place. -/
theorem own_at {w : World} {b : Nat} {e : TypeId} {B : Option Addr} {n c : Nat} {zs : List Int} (h : w.ownsRow b e 1 (.slice B n c) n (zs.map (Value.int .u8))) (k : Nat) (hk : k < n) :
    ∃ g, B = some ⟨g, 0, none⟩ ∧ b ≤ g ∧ (∀ i, i < n → w.cell? ⟨g, i, none⟩ = some (.int .u8 (zs.getD i 0))) ∧ (∀ i, w.frozen? ⟨g, i, none⟩ = false) ∧ ∀ i v, (w.setCell ⟨g, i, none⟩ (.int .u8 v)).ownsRow b e 1 (.slice B n c) n ((zs.set i v).map (Value.int .u8)) := by
  obtain ⟨g, cap, hv, hgb, hrow, hfz, hset⟩ := own_open h (by omega)
  injection hv with hv1 _ hv3
  subst hv1 hv3
  refine ⟨g, rfl, hgb, fun i hi => ?_, hfz, fun i v => ?_⟩
  · obtain ⟨b, off, e, _, hcell⟩ := hrow.ints.2 (by omega)
    injection e with e
    injection e with e1 e2
    subst e1 e2
    have := hcell i hi
    rwa [Nat.zero_add] at this
  · rw [List.map_set]
    exact hset i _

set_option maxHeartbeats 1000000 in
theorem walk_zero (a0 a1 a2 t r u : Int) (w : World) (p0 : -9223372036854775808 ≤ a0) (p1 : a0 ≤ 9223372036854775807) (q0 : -9223372036854775808 ≤ a1) (q1 : a1 ≤ 9223372036854775807) (s0 : -9223372036854775808 ≤ a2) (s1 : a2 ≤ 9223372036854775807)
    (ht : a0 % 65536 = t) (hr : a1 % 253 = r) (hu : a2 % 256 = u) :
    Calls Try.prog 5 #[.int .i64 a0, .int .i64 a1, .int .i64 a2, .int .u8 0] w fun e w' => e = .returned (.bool true) ∧ Below w.heap.size w w' := by
  have HT := Lib.hid ht
  have HRR := Lib.hid hr
  have HU := Lib.hid hu
  have r0 : 0 ≤ r := by omega
  have r1 : r < 253 := by omega
  have hf : hFits t (2 + r) u := by unfold hFits; omega
  have HF := Lib.hid hf
  have HS := Lib.hid (head_seven t (2 + r) u hf)
  have HX := Lib.hid (seven_bytes t (2 + r) u hf)
  have HE : Hid (∀ k, k = 2 ∨ k = 3 ∨ k = 4 → hE ((seven t (2 + r) u).set k 0) 7 = 0) := fun k hk => same_e t (2 + r) u hf k hk
  clear ht hr hu hf
  go_enter Try.func5, Try.ntmps5
  go_wp2_with (first
    | (go_at_call 6; refine (awake_any _).mono ?_; rintro e w1 ⟨rfl, hb⟩; have HB1 := Lib.hid hb; clear hb)
    | (go_at_call 13; (with_reducible refine (within_eq a0 65536 t _ HT.out p0 p1 (by omega) (by omega)).mono ?_); rintro e w' ⟨rfl, rfl⟩)
    | (go_at_call 13; (with_reducible refine (within_eq a1 253 r _ HRR.out q0 q1 (by omega) (by omega)).mono ?_); rintro e w' ⟨rfl, rfl⟩)
    | (go_at_call 13; (with_reducible refine (within_eq a2 256 u _ HU.out s0 s1 (by omega) (by omega)).mono ?_); rintro e w' ⟨rfl, rfl⟩)
    | (go_at_call 7
       refine (hput_yes t (2 + r) u _ HF.out).mono ?_
       rintro e w2 ⟨g2, c2, rfl, ho, hb⟩
       rw [HS.out] at ho
       have HP2 := Lib.hid (own_row ho).ints
       have hcap : 7 ≤ c2 := by
         rcases ho.2 with ⟨h, _⟩ | ⟨_, cap, _, h, _, _, h7, _⟩
         · cases h
         · injection h with _ _ h3; omega
       have HB2 := Lib.hid (HB1.out.trans (hb.mono HB1.out.size))
       clear hb ho))
  go_loopw [11] (fun i wr => ∃ k : Nat, k ≤ 7 ∧ i = .int .i64 (k : Int) ∧ Hid (Below w2.heap.size w2 wr)) (fun i _ => 7 - (intOf i).toNat)
  case atStart => exact ⟨0, by omega, rfl, Below.refl _ _⟩
  case round =>
    obtain ⟨k, hk, rfl, HK⟩ := hrel
    by_cases hlt : k < 7
    · have hi : (k : Int) < 7 := by omega
      have hcp : (k : Int) ≤ (c2 : Int) := by omega
      have hrow : Row .u8 wr wr.heap.size (some ⟨g2, 0, none⟩) k ((seven t (2 + r) u).take k) := by
        have h := (HP2.out.below HK.out).more HK.out.size
        have e7 : 7 = k + (7 - k) := by omega
        rw [← List.take_append_drop k (seven t (2 + r) u), e7] at h
        exact h.front (by rw [List.length_take]; simp [seven]; omega)
      have HQ := Lib.hid hrow
      clear hrow
      have HE3 := Lib.hid (front_e t (2 + r) u HF.out k hlt)
      go_wp2_with (go_at_call 9; refine (get_e 3 _ _ k _ _ HE3.out (take_bytes HX.out k) HQ.out (by omega)).mono ?_; rintro e w3 ⟨t3, l3, u3, rfl, hb3⟩; have HB3 := Lib.hid hb3; clear hb3)
      go_roundw
      case rel => exact ⟨k + 1, by omega, by go_num, (HK.out.trans (HB3.out.mono HK.out.size)).alloc (HK.out.trans (HB3.out.mono HK.out.size)).size _⟩
      case measure => simp [intOf]; omega
    · have hge : ¬ (k : Int) < 7 := by omega
      have HKw := HK
      go_wp2
      go_loopw [14] (fun i wr => ∃ k : Nat, 2 ≤ k ∧ k ≤ 4 ∧ i = .int .i64 (k : Int) ∧ Hid (Below w2.heap.size w2 wr)) (fun i _ => 4 - (intOf i).toNat)
      case atStart => exact ⟨2, by omega, by omega, rfl, HKw⟩
      case round =>
        obtain ⟨k, hk2, hk4, rfl, HQ⟩ := hrel
        have HPr := Lib.hid ((HP2.out.below HQ.out).more HQ.out.size)
        have HO := Lib.hid (own_none wr w2.heap.size 5)
        by_cases hlt : k < 4
        · have hi : (k : Int) < 4 := by omega
          have hi7 : (k : Int) < 7 := by omega
          have HZ : Hid ((seven t (2 + r) u).getD k 0 = 0) := by
            rcases (show k = 2 ∨ k = 3 by omega) with rfl | rfl <;> rfl
          have HEk := Lib.hid (HE.out k (by omega))
          go_wp2_with (first
            | (at_builtin
               refine wpList_append_row _ (o := ⟨some 65, _, _, _, _, _⟩) rfl (.const (.slice none 0 0)) (.tmp 64) 22 rfl w2.heap.size 5 (.int .u8 0) 1 Try.underlying22 info5 rfl (.slice none 0 0) 0 [] rfl HO.out _ (some ⟨g2, 0, none⟩) 7 c2 _ rfl HPr.out.v (one_cells _ _) (by omega) (by omega) HQ.out.size ?_
               intro v4 w4 hown hg hat
               rw [List.nil_append] at hown
               change w4.ownsRow w2.heap.size 5 1 v4 7 _ at hown
               obtain ⟨B4, c4, rfl⟩ := own_slice hown
               obtain ⟨g4, rfl, hgb, hcl, hfz, hset⟩ := own_at hown k (by omega)
               have hc4 := hcl k (by omega)
               rw [HZ.out] at hc4
               have hf4 := hfz k
               have HS4 := Lib.hid (hset k 0)
               have HB4 : Hid (Below w2.heap.size w2 (w4.setCell ⟨g4, k, none⟩ (.int .u8 0))) := (below_append HQ.out HO.out hg HQ.out.size).setCell hgb _
               clear hown hg hat hcl hfz hset)
            | (go_at_call 9
               refine (get_e 0 _ _ 7 _ _ HEk.out (set_bytes HX.out k 0 (by omega) (by omega)) (own_row HS4.out).ints (by omega)).mono ?_
               rintro e w5 ⟨t5, l5, u5, rfl, hb5⟩
               have HB5 := Lib.hid (HB4.out.trans (hb5.mono HB4.out.size))
               clear hb5))
          go_roundw
          case rel => exact ⟨k + 1, by omega, by omega, by go_num, HB5.out.alloc HB5.out.size _⟩
          case measure => simp [intOf]; omega
        · obtain rfl : k = 4 := by omega
          have HEk := Lib.hid (HE.out 4 (by omega))
          have HL : Hid (hE ((((seven t (2 + r) u).set 4 0).set 4 0).set 5 0) 7 = 2) := last_e t (2 + r) u 0 0 (by omega)
          have m0 : 0 ≤ 0 := by omega
          have m1 : 0 ≤ 255 := by omega
          go_wp2_with (first
            | (at_builtin
               refine wpList_append_row _ (o := ⟨some 84, _, _, _, _, _⟩) rfl (.const (.slice none 0 0)) (.tmp 83) 22 rfl w2.heap.size 5 (.int .u8 0) 1 Try.underlying22 info5 rfl (.slice none 0 0) 0 [] rfl HO.out _ (some ⟨g2, 0, none⟩) 7 c2 _ rfl HPr.out.v (one_cells _ _) (by omega) (by omega) HQ.out.size ?_
               intro v4 w4 hown hg hat
               rw [List.nil_append] at hown
               change w4.ownsRow w2.heap.size 5 1 v4 7 _ at hown
               obtain ⟨B4, c4, rfl⟩ := own_slice hown
               obtain ⟨g4, rfl, hgb, hcl, hfz, hset⟩ := own_at hown 4 (by omega)
               have hc4 : w4.cell? ⟨g4, 4, none⟩ = some (.int .u8 0) := hcl 4 (by omega)
               have hf4 := hfz 4
               have HS4 := Lib.hid (hset 4 0)
               have HB4 : Hid (Below w2.heap.size w2 (w4.setCell ⟨g4, 4, none⟩ (.int .u8 0))) := (below_append HQ.out HO.out hg HQ.out.size).setCell hgb _
               clear hown hg hat hcl hfz hset)
            | (go_at_call 9
               refine (get_e 0 _ _ 7 _ _ HEk.out (set_bytes HX.out 4 0 (by omega) (by omega)) (own_row HS4.out).ints (by omega)).mono ?_
               rintro e w5 ⟨t5, l5, u5, rfl, hb5⟩
               have hb6 : Below (w4.setCell ⟨g4, 4, none⟩ (.int .u8 0)).heap.size (w4.setCell ⟨g4, 4, none⟩ (.int .u8 0)) (w5.alloc (.cells #[.int .i64 t5, .int .i64 l5, .int .i64 u5] 28)) := hb5.alloc hb5.size _
               have ho6 := own_below HS4.out hb6
               have HB6 := Lib.hid (HB4.out.trans (hb6.mono HB4.out.size))
               obtain ⟨g6, e6, hgb6, hcl6, hfz6, hset6⟩ := own_at ho6 4 (by omega)
               injection e6 with e6
               injection e6 with e6
               subst e6
               have hc64 := hcl6 4 (by omega)
               have hc65 := hcl6 5 (by omega)
               have hf64 := hfz6 4
               have hf65 := hfz6 5
               have ho7 := hset6 4 0
               clear hcl6 hfz6 hset6
               obtain ⟨g7, e7, hgb7, hcl7, hfz7, hset7⟩ := own_at ho7 5 (by omega)
               injection e7 with e7
               injection e7 with e7
               subst e7
               have HS7 := Lib.hid (hset7 5 0)
               have HB7 := Lib.hid ((HB6.out.setCell (p := ⟨g4, 4, none⟩) hgb (.int .u8 0)).setCell (p := ⟨g4, 5, none⟩) hgb (.int .u8 0))
               clear hcl7 hfz7 hset7 ho6 ho7 hb5 hb6)
            | (go_at_call 9
               refine (get_e 2 _ _ 7 _ _ HL.out (set_bytes (set_bytes (set_bytes HX.out 4 0 (by omega) (by omega)) 4 0 (by omega) (by omega)) 5 _ (by omega) (by omega)) (own_row HS7.out).ints (by omega)).mono ?_
               rintro e w8 ⟨t8, l8, u8', rfl, hb8⟩
               have HB8 := Lib.hid (HB7.out.trans (hb8.mono HB7.out.size))
               clear hb8))
          go_ret
          exact ⟨rfl, HB2.out.trans ((HB8.out.alloc HB8.out.size _).mono HB2.out.size)⟩

set_option maxHeartbeats 1000000 in
theorem walk_pos (a0 a1 a2 by0 t r u : Int) (w : World) (p0 : -9223372036854775808 ≤ a0) (p1 : a0 ≤ 9223372036854775807) (q0 : -9223372036854775808 ≤ a1) (q1 : a1 ≤ 9223372036854775807) (s0 : -9223372036854775808 ≤ a2) (s1 : a2 ≤ 9223372036854775807)
    (b0 : 0 < by0) (b1 : by0 ≤ 255) (ht : a0 % 65536 = t) (hr : a1 % 253 = r) (hu : a2 % 256 = u) :
    Calls Try.prog 5 #[.int .i64 a0, .int .i64 a1, .int .i64 a2, .int .u8 by0] w fun e w' => e = .returned (.bool true) ∧ Below w.heap.size w w' := by
  have HT := Lib.hid ht
  have HRR := Lib.hid hr
  have HU := Lib.hid hu
  have r0 : 0 ≤ r := by omega
  have r1 : r < 253 := by omega
  have hf : hFits t (2 + r) u := by unfold hFits; omega
  have HF := Lib.hid hf
  have HS := Lib.hid (head_seven t (2 + r) u hf)
  have HX := Lib.hid (seven_bytes t (2 + r) u hf)
  have HE : Hid (∀ k, k = 2 ∨ k = 3 ∨ k = 4 → hE ((seven t (2 + r) u).set k by0) 7 = 2) := fun k hk => turned_e t (2 + r) u by0 hf b0 b1 k hk
  have hne : ¬ by0 = 0 := by omega
  have hbq : (by0 != 0) = true := by simpa using hne
  clear ht hr hu hf
  go_enter Try.func5, Try.ntmps5
  go_wp2_with (first
    | (go_at_call 6; refine (awake_any _).mono ?_; rintro e w1 ⟨rfl, hb⟩; have HB1 := Lib.hid hb; clear hb)
    | (go_at_call 13; (with_reducible refine (within_eq a0 65536 t _ HT.out p0 p1 (by omega) (by omega)).mono ?_); rintro e w' ⟨rfl, rfl⟩)
    | (go_at_call 13; (with_reducible refine (within_eq a1 253 r _ HRR.out q0 q1 (by omega) (by omega)).mono ?_); rintro e w' ⟨rfl, rfl⟩)
    | (go_at_call 13; (with_reducible refine (within_eq a2 256 u _ HU.out s0 s1 (by omega) (by omega)).mono ?_); rintro e w' ⟨rfl, rfl⟩)
    | (go_at_call 7
       refine (hput_yes t (2 + r) u _ HF.out).mono ?_
       rintro e w2 ⟨g2, c2, rfl, ho, hb⟩
       rw [HS.out] at ho
       have HP2 := Lib.hid (own_row ho).ints
       have hcap : 7 ≤ c2 := by
         rcases ho.2 with ⟨h, _⟩ | ⟨_, cap, _, h, _, _, h7, _⟩
         · cases h
         · injection h with _ _ h3; omega
       have HB2 := Lib.hid (HB1.out.trans (hb.mono HB1.out.size))
       clear hb ho))
  go_loopw [11] (fun i wr => ∃ k : Nat, k ≤ 7 ∧ i = .int .i64 (k : Int) ∧ Hid (Below w2.heap.size w2 wr)) (fun i _ => 7 - (intOf i).toNat)
  case atStart => exact ⟨0, by omega, rfl, Below.refl _ _⟩
  case round =>
    obtain ⟨k, hk, rfl, HK⟩ := hrel
    by_cases hlt : k < 7
    · have hi : (k : Int) < 7 := by omega
      have hcp : (k : Int) ≤ (c2 : Int) := by omega
      have hrow : Row .u8 wr wr.heap.size (some ⟨g2, 0, none⟩) k ((seven t (2 + r) u).take k) := by
        have h := (HP2.out.below HK.out).more HK.out.size
        have e7 : 7 = k + (7 - k) := by omega
        rw [← List.take_append_drop k (seven t (2 + r) u), e7] at h
        exact h.front (by rw [List.length_take]; simp [seven]; omega)
      have HQ := Lib.hid hrow
      clear hrow
      have HE3 := Lib.hid (front_e t (2 + r) u HF.out k hlt)
      go_wp2_with (go_at_call 9; refine (get_e 3 _ _ k _ _ HE3.out (take_bytes HX.out k) HQ.out (by omega)).mono ?_; rintro e w3 ⟨t3, l3, u3, rfl, hb3⟩; have HB3 := Lib.hid hb3; clear hb3)
      go_roundw
      case rel => exact ⟨k + 1, by omega, by go_num, (HK.out.trans (HB3.out.mono HK.out.size)).alloc (HK.out.trans (HB3.out.mono HK.out.size)).size _⟩
      case measure => simp [intOf]; omega
    · have hge : ¬ (k : Int) < 7 := by omega
      have HKw := HK
      go_wp2
      go_loopw [14] (fun i wr => ∃ k : Nat, 2 ≤ k ∧ k ≤ 4 ∧ i = .int .i64 (k : Int) ∧ Hid (Below w2.heap.size w2 wr)) (fun i _ => 4 - (intOf i).toNat)
      case atStart => exact ⟨2, by omega, by omega, rfl, HKw⟩
      case round =>
        obtain ⟨k, hk2, hk4, rfl, HQ⟩ := hrel
        have HPr := Lib.hid ((HP2.out.below HQ.out).more HQ.out.size)
        have HO := Lib.hid (own_none wr w2.heap.size 5)
        by_cases hlt : k < 4
        · have hi : (k : Int) < 4 := by omega
          have hi7 : (k : Int) < 7 := by omega
          have HZ : Hid ((seven t (2 + r) u).getD k 0 = 0) := by
            rcases (show k = 2 ∨ k = 3 by omega) with rfl | rfl <;> rfl
          have HEk := Lib.hid (HE.out k (by omega))
          go_wp2_with (first
            | (at_builtin
               refine wpList_append_row _ (o := ⟨some 65, _, _, _, _, _⟩) rfl (.const (.slice none 0 0)) (.tmp 64) 22 rfl w2.heap.size 5 (.int .u8 0) 1 Try.underlying22 info5 rfl (.slice none 0 0) 0 [] rfl HO.out _ (some ⟨g2, 0, none⟩) 7 c2 _ rfl HPr.out.v (one_cells _ _) (by omega) (by omega) HQ.out.size ?_
               intro v4 w4 hown hg hat
               rw [List.nil_append] at hown
               change w4.ownsRow w2.heap.size 5 1 v4 7 _ at hown
               obtain ⟨B4, c4, rfl⟩ := own_slice hown
               obtain ⟨g4, rfl, hgb, hcl, hfz, hset⟩ := own_at hown k (by omega)
               have hc4 := hcl k (by omega)
               rw [HZ.out] at hc4
               have hf4 := hfz k
               have HS4 := Lib.hid (hset k by0)
               have HB4 : Hid (Below w2.heap.size w2 (w4.setCell ⟨g4, k, none⟩ (.int .u8 by0))) := (below_append HQ.out HO.out hg HQ.out.size).setCell hgb _
               clear hown hg hat hcl hfz hset)
            | (go_at_call 9
               refine (get_e 2 _ _ 7 _ _ HEk.out (set_bytes HX.out k by0 (by omega) (by omega)) (own_row HS4.out).ints (by omega)).mono ?_
               rintro e w5 ⟨t5, l5, u5, rfl, hb5⟩
               have HB5 := Lib.hid (HB4.out.trans (hb5.mono HB4.out.size))
               clear hb5))
          go_roundw
          case rel => exact ⟨k + 1, by omega, by omega, by go_num, HB5.out.alloc HB5.out.size _⟩
          case measure => simp [intOf]; omega
        · obtain rfl : k = 4 := by omega
          have HEk := Lib.hid (HE.out 4 (by omega))
          have HL : Hid (hE ((((seven t (2 + r) u).set 4 by0).set 4 0).set 5 (by0 % 2)) 7 = 2) := last_e t (2 + r) u by0 (by0 % 2) (by omega)
          have m0 : 0 ≤ (by0 % 2) := by omega
          have m1 : (by0 % 2) ≤ 255 := by omega
          go_wp2_with (first
            | (at_builtin
               refine wpList_append_row _ (o := ⟨some 84, _, _, _, _, _⟩) rfl (.const (.slice none 0 0)) (.tmp 83) 22 rfl w2.heap.size 5 (.int .u8 0) 1 Try.underlying22 info5 rfl (.slice none 0 0) 0 [] rfl HO.out _ (some ⟨g2, 0, none⟩) 7 c2 _ rfl HPr.out.v (one_cells _ _) (by omega) (by omega) HQ.out.size ?_
               intro v4 w4 hown hg hat
               rw [List.nil_append] at hown
               change w4.ownsRow w2.heap.size 5 1 v4 7 _ at hown
               obtain ⟨B4, c4, rfl⟩ := own_slice hown
               obtain ⟨g4, rfl, hgb, hcl, hfz, hset⟩ := own_at hown 4 (by omega)
               have hc4 : w4.cell? ⟨g4, 4, none⟩ = some (.int .u8 0) := hcl 4 (by omega)
               have hf4 := hfz 4
               have HS4 := Lib.hid (hset 4 by0)
               have HB4 : Hid (Below w2.heap.size w2 (w4.setCell ⟨g4, 4, none⟩ (.int .u8 by0))) := (below_append HQ.out HO.out hg HQ.out.size).setCell hgb _
               clear hown hg hat hcl hfz hset)
            | (go_at_call 9
               refine (get_e 2 _ _ 7 _ _ HEk.out (set_bytes HX.out 4 by0 (by omega) (by omega)) (own_row HS4.out).ints (by omega)).mono ?_
               rintro e w5 ⟨t5, l5, u5, rfl, hb5⟩
               have hb6 : Below (w4.setCell ⟨g4, 4, none⟩ (.int .u8 by0)).heap.size (w4.setCell ⟨g4, 4, none⟩ (.int .u8 by0)) (w5.alloc (.cells #[.int .i64 t5, .int .i64 l5, .int .i64 u5] 28)) := hb5.alloc hb5.size _
               have ho6 := own_below HS4.out hb6
               have HB6 := Lib.hid (HB4.out.trans (hb6.mono HB4.out.size))
               obtain ⟨g6, e6, hgb6, hcl6, hfz6, hset6⟩ := own_at ho6 4 (by omega)
               injection e6 with e6
               injection e6 with e6
               subst e6
               have hc64 := hcl6 4 (by omega)
               have hc65 := hcl6 5 (by omega)
               have hf64 := hfz6 4
               have hf65 := hfz6 5
               have ho7 := hset6 4 0
               clear hcl6 hfz6 hset6
               obtain ⟨g7, e7, hgb7, hcl7, hfz7, hset7⟩ := own_at ho7 5 (by omega)
               injection e7 with e7
               injection e7 with e7
               subst e7
               have HS7 := Lib.hid (hset7 5 (by0 % 2))
               have HB7 := Lib.hid ((HB6.out.setCell (p := ⟨g4, 4, none⟩) hgb (.int .u8 0)).setCell (p := ⟨g4, 5, none⟩) hgb (.int .u8 (by0 % 2)))
               clear hcl7 hfz7 hset7 ho6 ho7 hb5 hb6)
            | (go_at_call 9
               refine (get_e 2 _ _ 7 _ _ HL.out (set_bytes (set_bytes (set_bytes HX.out 4 by0 (by omega) (by omega)) 4 0 (by omega) (by omega)) 5 _ (by omega) (by omega)) (own_row HS7.out).ints (by omega)).mono ?_
               rintro e w8 ⟨t8, l8, u8', rfl, hb8⟩
               have HB8 := Lib.hid (HB7.out.trans (hb8.mono HB7.out.size))
               clear hb8))
          go_ret
          exact ⟨rfl, HB2.out.trans ((HB8.out.alloc HB8.out.size _).mono HB2.out.size)⟩

theorem walk (a0 : Int) (a1 : Int) (a2 : Int) (a3 : Int) (w0 : (Lit.int .i64 a0).wf = true) (w1 : (Lit.int .i64 a1).wf = true) (w2 : (Lit.int .i64 a2).wf = true) (w3 : (Lit.int .u8 a3).wf = true) (w : World) :
    Calls Try.prog 5 #[.int .i64 a0, .int .i64 a1, .int .i64 a2, .int .u8 a3] w fun e w' => e = .returned (.bool true) ∧ Below w.heap.size w w' := by
  have h0 := bounds_i64 w0
  have h1 := bounds_i64 w1
  have h2 := bounds_i64 w2
  have h3 := bounds_u8 w3
  by_cases hz : a3 = 0
  · subst hz
    exact walk_zero a0 a1 a2 _ _ _ w h0.1 (by omega) h1.1 (by omega) h2.1 (by omega) rfl rfl rfl
  · exact walk_pos a0 a1 a2 a3 _ _ _ w h0.1 (by omega) h1.1 (by omega) h2.1 (by omega) (by omega) (by omega) rfl rfl rfl

/-! ### THE ROW's STEP: WRITTEN OUT: LEAVE IT -/
set_option maxRecDepth 100000 in
theorem lifted (os : Os) (started : os.Started) (H : Type) (enc : TypeId × Value → H) :
    ReturnsInHanded {} Try.checked os 5 .any (Rows.headFrontsSpec.pre6 enc Try.prog Try.f5 Rows.headFrontsRow.domain false) (Rows.headFrontsSpec.post enc Try.prog Try.f5 false true false false) := by
  refine returnsInHanded_of_change (C := Try.checked) own started (by kernel_rfl) Try.func5
    (ChangeSpec.witness6 (enc := enc) (C := Try.checked) false ⟨#[], #[.int .i64 0, .int .i64 0, .int .i64 0, .int .u8 0], []⟩ 8 (by kernel_rfl) (by kernel_rfl) (by kernel_rfl) (by kernel_rfl)) ?_
  intro W base args ds gs before hval0 hW hcnd _
  have hval : ∀ (j : Nat) t v, Try.f5.params[j]? = some t → args[j]? = some v → Value.okWide Try.prog W .any base t v := hval0
  have hW' := hW
  obtain ⟨p, q, hA0, hV, rfl, hfz, hnd⟩ := hW
  have hA : DataW.TrodAll enc Try.prog W 0 (fun _ => true) true Try.f5.params.toList args.toList ds p := hA0
  rw [Try.params5] at hA hval
  obtain ⟨v0, vs0, d0, ds0, p0, q0, hargs, rfl, rfl, h0, r0⟩ := trodAll_cons hA
  obtain ⟨v1, vs1, d1, ds1, p1, q1, rfl, rfl, rfl, h1, r1⟩ := trodAll_cons r0
  obtain ⟨v2, vs2, d2, ds2, p2, q2, rfl, rfl, rfl, h2, r2⟩ := trodAll_cons r1
  obtain ⟨v3, vs3, d3, ds3, p3, q3, rfl, rfl, rfl, h3, r3⟩ := trodAll_cons r2
  obtain ⟨rfl, rfl, rfl⟩ := trodAll_nil r3
  obtain rfl : args = #[v0, v1, v2, v3] := by cases args; simp_all
  obtain ⟨rfl, rfl⟩ := trodVars_none hV
  obtain ⟨a0, rfl, rfl, rfl, w0⟩ := open_int Try.underlying3 (hval 0 3 v0 rfl rfl) h0
  obtain ⟨a1, rfl, rfl, rfl, w1⟩ := open_int Try.underlying3 (hval 1 3 v1 rfl rfl) h1
  obtain ⟨a2, rfl, rfl, rfl, w2⟩ := open_int Try.underlying3 (hval 2 3 v2 rfl rfl) h2
  obtain ⟨a3, rfl, rfl, rfl, w3⟩ := open_int Try.underlying5 (hval 3 5 v3 rfl rfl) h3
  clear hA0 hval0
  simp only [List.append_nil] at hW'
  refine (walk a0 a1 a2 a3 w0 w1 w2 w3 W).mono fun e W' ⟨he, bel⟩ => ?_
  subst he
  exact ⟨_, rfl, _, _, _, [], _, [], hW', trodAll_mk1 (shut_bool Try.underlying4 _), (trodAll_cons_mk (shut_int Try.underlying3 w0) (trodAll_cons_mk (shut_int Try.underlying3 w1) (trodAll_cons_mk (shut_int Try.underlying3 w2) (trodAll_cons_mk (shut_int Try.underlying5 w3) trodAll_mk0)))), rfl, bel.frame _, fun h => by cases h⟩

theorem over : Rows.headFrontsRow.holds Try.pinned (OpenSpec.ofChange Rows.headFrontsSpec) :=
  OpenClaim.holds_of_wide 5 Try.f5 rfl rfl rfl rfl rfl rfl rfl ⟨rfl, rfl, rfl, rfl, rfl⟩ rfl rfl rfl rfl rfl (by kernel_rfl) Try.func5 (by kernel_rfl)
    (of_decide_eq_true (by kernel_rfl)) (by unfold Func.isWrapper; first | (rw [if_pos (by decide +kernel)]; kernel_rfl) | (rw [if_neg (by decide +kernel)]; exact ⟨rfl, rfl⟩))
    (fun os started H enc _ => lifted os started H enc)

/-- ████ THE STATEMENT ████ -/
theorem proved : Rows.HeadFrontsSaid :=
  over
#print axioms proved
end Go.Proofs.Ytkaggkbjepggkaa.headFronts
